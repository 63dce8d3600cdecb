/-
  Labels: lists that hold them; Valid.
-/
import Derived.Test.YtanpneahembhbaaGreatDoorLVals
import Derived.Sort.Walk0
import Derived.Lib.QuietBelow
import Derived.BigQuiet
namespace Go.Proofs.YtanpneahembhbaaGreatDoor.L
open Go.RowKit
open Go.Sort (grow)
abbrev Lbl := ByteArray × ByteArray
def Lbls (w : World) (v : Value) (ls : List Lbl) : Prop :=
  ∃ a cap, v = .slice a ls.length cap ∧ ls.length ≤ cap ∧ cap ≤ maxLen ∧ (a = none → cap = 0) ∧ ∀ k, k < ls.length → ∃ b off, a = some ⟨b, off, none⟩ ∧ w.cell? ⟨b, off + k * 2, none⟩ = some (.string (ls.getD k (⟨#[]⟩, ⟨#[]⟩)).1) ∧ w.cell? ⟨b, off + k * 2 + 1, none⟩ = some (.string (ls.getD k (⟨#[]⟩, ⟨#[]⟩)).2)
theorem Lbls.below {w w' : World} {v : Value} {ls : List Lbl} (H : Lbls w v ls) (hb : Below w.heap.size w w') : Lbls w' v ls := by
  obtain ⟨a, cap, e, h1, h2, h0, h3⟩ := H
  refine ⟨a, cap, e, h1, h2, h0, fun k hk => ?_⟩
  obtain ⟨b, off, ea, hc, hd⟩ := h3 k hk
  exact ⟨b, off, ea, by rw [hb.cell (p := ⟨b, off + k * 2, none⟩) (block_lt_of_cell hc)]; exact hc, by rw [hb.cell (p := ⟨b, off + k * 2 + 1, none⟩) (block_lt_of_cell hd)]; exact hd⟩
theorem Lbls.len {w : World} {v : Value} {ls : List Lbl} (H : Lbls w v ls) : ∃ a cap, v = .slice a ls.length cap ∧ ls.length ≤ cap ∧ cap ≤ maxLen := by
  obtain ⟨a, cap, h, h1, h2, _⟩ := H; exact ⟨a, cap, h, h1, h2⟩
theorem Lbls.at {w : World} {a : Option Addr} {n cap : Nat} {ls : List Lbl} (H : Lbls w (.slice a n cap) ls) (k : Nat) (hk : k < ls.length) : ∃ b off, a = some ⟨b, off, none⟩ ∧ w.cell? ⟨b, off + k * 2, none⟩ = some (.string (ls.getD k (⟨#[]⟩, ⟨#[]⟩)).1) ∧ w.cell? ⟨b, off + k * 2 + 1, none⟩ = some (.string (ls.getD k (⟨#[]⟩, ⟨#[]⟩)).2) := by
  obtain ⟨a', cap', e', _, _, _, hc⟩ := H
  simp only [Value.slice.injEq] at e'
  obtain ⟨rfl, rfl, rfl⟩ := e'
  exact hc k hk
def ltS (a b : ByteArray) : Bool := Op.bytesLess a.toList b.toList
/-- A label that may be. -/
def lblB (x : Lbl) : Bool := nameB x.1 && valueB x.2
/-- Keys in their order. -/
def upB (ls : List Lbl) : Bool := (List.range ls.length).all fun i => decide (i = 0) || ltS (ls.getD (i - 1) (⟨#[]⟩, ⟨#[]⟩)).1 (ls.getD i (⟨#[]⟩, ⟨#[]⟩)).1
def lblsB (ls : List Lbl) : Bool := decide (ls.length ≤ 16) && (ls.all lblB && upB ls)
theorem lblsB_no {ls : List Lbl} {k : Nat} (hk : k < ls.length) (h : lblB (ls.getD k (⟨#[]⟩, ⟨#[]⟩)) = false) : lblsB ls = false := by
  unfold lblsB
  have : ls.all lblB = false := by
    rw [List.all_eq_false]
    refine ⟨ls.getD k (⟨#[]⟩, ⟨#[]⟩), ?_, by rw [h]; exact Bool.false_ne_true⟩
    rw [List.getD_eq_getElem?_getD, List.getElem?_eq_getElem hk]
    exact List.getElem_mem hk
  rw [this, Bool.false_and, Bool.and_false]
theorem lblsB_down {ls : List Lbl} {k : Nat} (hk : k < ls.length) (h0 : 0 < k) (h : ltS (ls.getD (k - 1) (⟨#[]⟩, ⟨#[]⟩)).1 (ls.getD k (⟨#[]⟩, ⟨#[]⟩)).1 = false) : lblsB ls = false := by
  unfold lblsB
  have : upB ls = false := by
    unfold upB
    rw [List.all_eq_false]
    exact ⟨k, List.mem_range.2 hk, by rw [h, decide_eq_false (by omega)]; simp⟩
  rw [this, Bool.and_false, Bool.and_false]
theorem lblsB_yes {ls : List Lbl} (h16 : ls.length ≤ 16) (h : ∀ k, k < ls.length → lblB (ls.getD k (⟨#[]⟩, ⟨#[]⟩)) = true ∧ (0 < k → ltS (ls.getD (k - 1) (⟨#[]⟩, ⟨#[]⟩)).1 (ls.getD k (⟨#[]⟩, ⟨#[]⟩)).1 = true)) : lblsB ls = true := by
  unfold lblsB
  rw [decide_eq_true h16, Bool.true_and, Bool.and_eq_true]
  constructor
  · rw [List.all_eq_true]
    intro x hx
    obtain ⟨k, hk, e⟩ := List.getElem_of_mem hx
    have := (h k hk).1
    rw [List.getD_eq_getElem?_getD, List.getElem?_eq_getElem hk] at this
    rw [← e]
    exact this
  · unfold upB
    rw [List.all_eq_true]
    intro k hk
    rw [List.mem_range] at hk
    by_cases h0 : k = 0
    · rw [decide_eq_true h0]; rfl
    · rw [(h k hk).2 (by omega), Bool.or_true]
def validE (ls : List Lbl) : Int := if lblsB ls = true then 0 else 42
set_option maxHeartbeats 8000000 in
set_option maxRecDepth 100000 in
theorem valid_any (v : Value) (ls : List Lbl) (w : World) (hv : Lbls w v ls) :
    Calls Tryz.prog 72 #[v] w fun e w' => e = .returned (.int .i64 (validE ls)) ∧ Below w.heap.size w w' := by
  have V := Lib.hid hv
  obtain ⟨a, cap, rfl, hlc, hcm⟩ := hv.len
  unfold maxLen at hcm
  obtain ⟨n, hn⟩ : ∃ n, n = ls.length := ⟨_, rfl⟩
  rw [← hn] at hlc V ⊢
  have HN := Lib.hid hn
  clear hv hn
  by_cases h16 : n ≤ 16
  · have g16 : decide ((n : Int) > 16) = false := decide_eq_false (by omega)
    go_enter Tryz.func72, Tryz.ntmps72
    go_wp2_with fail
    clear g16
    go_loopg [10] n (fun g si wr => ∃ (k : Nat), k ≤ n ∧ g = n - k ∧ si = .int .i64 k ∧ (∀ j, j < k → lblB (ls.getD j (⟨#[]⟩, ⟨#[]⟩)) = true ∧ (0 < j → ltS (ls.getD (j - 1) (⟨#[]⟩, ⟨#[]⟩)).1 (ls.getD j (⟨#[]⟩, ⟨#[]⟩)).1 = true)) ∧ Below w.heap.size w wr)
    case atStart => exact ⟨0, Nat.zero_le _, rfl, rfl, fun j hj => absurd hj (Nat.not_lt_zero _), Below.refl _ _⟩
    case round =>
      obtain ⟨k, hk, hg, rfl, hpr, hb⟩ := hrel
      have R : Aside (gk = n - k ∧ (∀ j, j < k → lblB (ls.getD j (⟨#[]⟩, ⟨#[]⟩)) = true ∧ (0 < j → ltS (ls.getD (j - 1) (⟨#[]⟩, ⟨#[]⟩)).1 (ls.getD j (⟨#[]⟩, ⟨#[]⟩)).1 = true)) ∧ Below w.heap.size w wr) := ⟨hg, hpr, hb⟩
      clear hg hpr hb
      by_cases hlt : k < n
      · have hlt' : (k : Int) < (n : Int) := by omega
        obtain ⟨b, off, rfl, c0, c1⟩ := (V.out.below R.out.2.2).at k (by rw [← HN.out]; exact hlt)
        obtain ⟨x, hx⟩ : ∃ x, x = ls.getD k (⟨#[]⟩, ⟨#[]⟩) := ⟨_, rfl⟩
        rw [← hx] at c0 c1
        have XX := Lib.hid hx
        obtain ⟨key, val⟩ := x
        simp only at c0 c1
        have NK := Lib.hid (name_any key)
        have VK := Lib.hid (value_any val)
        obtain ⟨X, hX⟩ : ∃ X, X = wr.alloc (.cells #[.string key, .string val] 84) := ⟨_, rfl⟩
        have AX : Hid (Below wr.heap.size wr X) := Lib.hid (by rw [hX]; exact (Below.refl _ wr).alloc (Nat.le_refl _) _)
        have b0 : X.cell? ⟨wr.heap.size, 0, none⟩ = some (.string key) := by rw [hX, World.cell?_alloc_new]; rfl
        have b1 : X.cell? ⟨wr.heap.size, 1, none⟩ = some (.string val) := by rw [hX, World.cell?_alloc_new]; rfl
        have hX' := hX.symm
        clear hX hx
        go_wp2_with fail
        refine (NK.out X).mono ?_
        rintro e w2 ⟨rfl, hb⟩
        have B2 := Lib.hid (AX.out.trans (hb.mono AX.out.size))
        have d0 : w2.cell? ⟨wr.heap.size, 0, none⟩ = some (.string key) := (hb.cell (block_lt_of_cell b0)).trans b0
        have d1 : w2.cell? ⟨wr.heap.size, 1, none⟩ = some (.string val) := (hb.cell (block_lt_of_cell b1)).trans b1
        clear hb NK b0 b1 hX'
        cases hN : nameB key with
        | false =>
          have hr : Hid (validE ls = 42) := Lib.hid (by
            unfold validE
            rw [lblsB_no (k := k) (by rw [← HN.out]; exact hlt) (by rw [← XX.out]; unfold lblB; simp [hN]), if_neg (by simp)])
          go_wp2_with fail
          go_ret
          exact ⟨by rw [hr.out]; rfl, R.out.2.2.trans (B2.out.mono R.out.2.2.size)⟩
        | true =>
          go_wp2_with fail
          refine (VK.out w2).mono ?_
          rintro e w3 ⟨rfl, hb⟩
          have B3 := Lib.hid (B2.out.trans (hb.mono B2.out.size))
          have e0 : w3.cell? ⟨wr.heap.size, 0, none⟩ = some (.string key) := (hb.cell (block_lt_of_cell d0)).trans d0
          clear hb VK d0 d1
          cases hV : valueB val with
          | false =>
            have hr : Hid (validE ls = 42) := Lib.hid (by
              unfold validE
              rw [lblsB_no (k := k) (by rw [← HN.out]; exact hlt) (by rw [← XX.out]; unfold lblB; simp [hV]), if_neg (by simp)])
            go_wp2_with fail
            go_ret
            exact ⟨by rw [hr.out]; rfl, R.out.2.2.trans (B3.out.mono R.out.2.2.size)⟩
          | true =>
            have LB : Hid (lblB (ls.getD k (⟨#[]⟩, ⟨#[]⟩)) = true) := Lib.hid (by rw [← XX.out]; unfold lblB; simp [hN, hV])
            have xB : Hid (∀ (dq : Nat) (os : Array Obj), Below w3.heap.size w3 (grow (redrawn w3 dq) os)) := fun dq os => below_regrown w3 dq os
            have r0 : ∀ (dq : Nat) (os : Array Obj), (grow (redrawn w3 dq) os).cell? ⟨wr.heap.size, 0, none⟩ = some (.string key) := fun dq os => cell_regrown e0 dq os
            by_cases h0 : k = 0
            · subst h0
              go_wp2_with fail
              refine wp_region_quiet_below (by kernel_rfl) (by kernel_rfl) ?_
              repeat (go_big_quiet_step (fail))
              refine wpQuiet_nil ?_
              intro _ hw'
              obtain ⟨⟨dq, osq⟩, hw''⟩ := hw'
              subst hw''
              have xx := Lib.hid (B3.out.trans ((xB.out dq osq).mono B3.out.size))
              clear r0 xB
              obtain ⟨W, hW⟩ : ∃ W, W = grow (redrawn w3 dq) osq := ⟨_, rfl⟩
              rw [← hW] at xx ⊢
              clear hW
              go_wp2_with fail
              go_roundg (n - (0 + 1))
              case measure => have := R.out.1; omega
              case rel => exact ⟨1, by omega, rfl, rfl, fun j hj => by
                obtain rfl : j = 0 := by omega
                exact ⟨LB.out, fun h => absurd h (Nat.lt_irrefl _)⟩, R.out.2.2.trans (xx.out.mono R.out.2.2.size)⟩
            · obtain ⟨m, hm⟩ : ∃ m, m = k - 1 := ⟨_, rfl⟩
              have hkm : k = m + 1 := by omega
              obtain ⟨_, _, ea, p0, _⟩ := (V.out.below (R.out.2.2.trans (B3.out.mono R.out.2.2.size))).at m (by rw [← HN.out]; omega)
              cases ea
              obtain ⟨pk, hpk⟩ : ∃ pk, pk = (ls.getD m (⟨#[]⟩, ⟨#[]⟩)).1 := ⟨_, rfl⟩
              rw [← hpk] at p0
              have q0 : ∀ (dq : Nat) (os : Array Obj), (grow (redrawn w3 dq) os).cell? ⟨b, off + m * 2, none⟩ = some (.string pk) := fun dq os => cell_regrown p0 dq os
              have em : ((k : Int) - 1) = (m : Int) := by omega
              have gk : decide ((k : Int) > 0) = true := decide_eq_true (by omega)
              have gm : m < n := by omega
              have gk2 : decide (0 < k) = true := decide_eq_true (by omega)
              have wm : IntKind.i64.wrap ((k : Int) - 1) = (m : Int) := by rw [em]; simp [IntKind.wrap, IntKind.bits, IntKind.signed]; omega
              have PK := Lib.hid (And.intro hpk hkm)
              have K0 := Lib.hid h0
              clear hpk hkm hm p0 h0
              cases hL : Op.bytesLess pk.toList key.toList with
              | true =>
                go_wp2_with fail
                refine wp_region_quiet_below (by kernel_rfl) (by kernel_rfl) ?_
                repeat (go_big_quiet_step (fail))
                refine wpQuiet_nil ?_
                intro _ hw'
                obtain ⟨⟨dq, osq⟩, hw''⟩ := hw'
                subst hw''
                have xx := Lib.hid (B3.out.trans ((xB.out dq osq).mono B3.out.size))
                clear r0 xB q0 em gk gm gk2 wm
                obtain ⟨W, hW⟩ : ∃ W, W = grow (redrawn w3 dq) osq := ⟨_, rfl⟩
                rw [← hW] at xx ⊢
                clear hW
                go_wp2_with fail
                go_roundg (n - (k + 1))
                case measure => have := R.out.1; omega
                case rel => exact ⟨k + 1, by omega, rfl, by go_num, fun j hj => by
                  rcases Nat.lt_or_ge j k with h | h
                  · exact R.out.2.1 j h
                  · obtain rfl : j = k := by omega
                    refine ⟨LB.out, fun _ => ?_⟩
                    rw [show j - 1 = m by have := PK.out.2; omega, ← PK.out.1, ← XX.out]
                    exact hL, R.out.2.2.trans (xx.out.mono R.out.2.2.size)⟩
              | false =>
                have hr : Hid (validE ls = 42) := Lib.hid (by
                  unfold validE
                  rw [lblsB_down (k := k) (by rw [← HN.out]; exact hlt) (by have := K0.out; omega) (by rw [show k - 1 = m by have := PK.out.2; omega, ← PK.out.1, ← XX.out]; exact hL), if_neg (by simp)])
                go_wp2_with fail
                refine wp_region_quiet_below (by kernel_rfl) (by kernel_rfl) ?_
                repeat (go_big_quiet_step (fail))
                refine wpQuiet_nil ?_
                intro _ hw'
                obtain ⟨⟨dq, osq⟩, hw''⟩ := hw'
                subst hw''
                have xx := Lib.hid (B3.out.trans ((xB.out dq osq).mono B3.out.size))
                clear r0 xB q0 em gk gm gk2 wm
                go_wp2_with fail
                go_ret
                exact ⟨by rw [hr.out]; rfl, R.out.2.2.trans (xx.out.mono R.out.2.2.size)⟩
      · have hr : Hid (validE ls = 0) := Lib.hid (by
          unfold validE
          rw [lblsB_yes (by rw [← HN.out]; exact h16) (fun j hj => R.out.2.1 j (by have := HN.out; omega)), if_pos rfl])
        go_wp2_with fail
        go_ret
        exact ⟨by rw [hr.out]; rfl, R.out.2.2⟩
  · have g16 : decide ((n : Int) > 16) = true := decide_eq_true (by omega)
    have hr : Hid (validE ls = 42) := Lib.hid (by
      unfold validE lblsB
      rw [decide_eq_false (by rw [← HN.out]; exact h16), Bool.false_and, if_neg (by simp)])
    go_enter Tryz.func72, Tryz.ntmps72
    go_wp2_with fail
    go_ret
    exact ⟨by rw [hr.out]; rfl, Below.refl _ _⟩
end Go.Proofs.YtanpneahembhbaaGreatDoor.L
