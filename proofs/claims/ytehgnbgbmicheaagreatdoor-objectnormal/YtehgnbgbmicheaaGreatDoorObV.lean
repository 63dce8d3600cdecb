/-
  isAmount, quant.Valid: of every list of amounts.
-/
import Derived.Test.YtehgnbgbmicheaaGreatDoorObQ
import Derived.Lib.QuietBelow
import Derived.BigQuiet
namespace Go.Proofs.YtehgnbgbmicheaaGreatDoor
open Go.RowKit
open Go.Sort (grow)
def amsB (l : List Am) : Bool := decide (l.length ≤ 16) && (l.all amB && (List.range l.length).all fun i => decide (i = 0) || L.ltS (l.getD (i - 1) kAm.z).n (l.getD i kAm.z).n)
theorem ams_no {l : List Am} {k : Nat} (hk : k < l.length) (h : amB (l.getD k kAm.z) = false) : amsB l = false := by
  unfold amsB
  have : l.all amB = false := by
    rw [List.all_eq_false]
    exact ⟨_, getD_in hk, by rw [h]; exact Bool.false_ne_true⟩
  rw [this, Bool.false_and, Bool.and_false]
theorem ams_down {l : List Am} {k : Nat} (hk : k < l.length) (h0 : 0 < k) (h : L.ltS (l.getD (k - 1) kAm.z).n (l.getD k kAm.z).n = false) : amsB l = false := by
  unfold amsB
  have : ((List.range l.length).all fun i => decide (i = 0) || L.ltS (l.getD (i - 1) kAm.z).n (l.getD i kAm.z).n) = false := by
    rw [List.all_eq_false]
    exact ⟨k, List.mem_range.2 hk, by rw [h, decide_eq_false (by omega)]; simp⟩
  rw [this, Bool.and_false, Bool.and_false]
theorem ams_yes {l : List Am} (h16 : l.length ≤ 16) (h : ∀ k, k < l.length → amB (l.getD k kAm.z) = true ∧ (0 < k → L.ltS (l.getD (k - 1) kAm.z).n (l.getD k kAm.z).n = true)) : amsB l = true := by
  unfold amsB
  rw [decide_eq_true h16, Bool.true_and, Bool.and_eq_true]
  constructor
  · rw [List.all_eq_true]
    intro x hx
    obtain ⟨k, hk, e⟩ := List.getElem_of_mem hx
    have := (h k hk).1
    rw [List.getD_eq_getElem?_getD, List.getElem?_eq_getElem hk] at this
    rw [← e]
    exact this
  · rw [List.all_eq_true]
    intro k hk
    rw [List.mem_range] at hk
    by_cases h0 : k = 0
    · rw [decide_eq_true h0]; rfl
    · rw [(h k hk).2 (by omega), Bool.or_true]
def amsC (l : List Am) : Int := if 16 < l.length then 23 else if amsB l = true then 0 else 31
theorem amsC_zero (l : List Am) : amsC l = 0 ↔ amsB l = true := by
  unfold amsC
  by_cases h : 16 < l.length
  · rw [if_pos h]
    refine ⟨fun q => by simp at q, fun q => ?_⟩
    unfold amsB at q
    rw [decide_eq_false (by omega)] at q
    simp at q
  · rw [if_neg h]
    cases amsB l <;> simp
set_option maxHeartbeats 2000000 in
theorem amount_any (x : Am) (w : World) : Calls Tryz.prog 62 #[.agg #[.string x.n, .int .i64 x.v]] w fun e w' => e = .returned (.bool (amB x)) ∧ Below w.heap.size w w' := by
  obtain ⟨t, v⟩ := x
  have RG := Lib.hid (res_gen t)
  have A0 := Lib.hid ((Below.refl _ w).alloc (Nat.le_refl _) (.cells #[.string t, .int .i64 v] 56))
  by_cases h : 0 ≤ v
  · have g : decide (v ≥ 0) = true := decide_eq_true h
    have hA : Hid (amB ⟨t, v⟩ = resB t) := Lib.hid (by unfold amB; rw [decide_eq_true h]; rfl)
    go_enter Tryz.func62, Tryz.ntmps62
    go_wp2_with fail
    refine (RG.out _).mono ?_
    rintro e w1 ⟨rfl, hb⟩
    have B : Aside (Below w.heap.size w w1) := A0.out.trans (hb.mono A0.out.size)
    clear hb RG A0
    go_wp2_with fail
    go_ret
    exact ⟨by rw [hA.out]; rfl, B.out⟩
  · have g : decide (v ≥ 0) = false := decide_eq_false h
    have hA : Hid (amB ⟨t, v⟩ = false) := Lib.hid (by unfold amB; rw [decide_eq_false h]; rfl)
    go_enter Tryz.func62, Tryz.ntmps62
    go_wp2_with fail
    go_ret
    exact ⟨by rw [hA.out]; rfl, A0.out⟩
set_option maxHeartbeats 8000000 in
set_option maxRecDepth 100000 in
theorem valid_any (v : Value) (l : List Am) (w : World) (hv : Row kAm w v l) :
    Calls Tryz.prog 71 #[v] w fun e w' => e = .returned (.int .i64 (amsC l)) ∧ Below w.heap.size w w' := by
  have V := Lib.hid hv
  obtain ⟨a, cap, rfl, hlc, hcm⟩ := hv.len
  unfold maxLen at hcm
  obtain ⟨n, hn⟩ : ∃ n, n = l.length := ⟨_, rfl⟩
  rw [← hn] at hlc V ⊢
  have HN := Lib.hid hn
  clear hv hn
  by_cases h16 : n ≤ 16
  · have g16 : decide ((n : Int) > 16) = false := decide_eq_false (by omega)
    go_enter Tryz.func71, Tryz.ntmps71
    go_wp2_with fail
    clear g16
    go_loopg [10] n (fun g si wr => ∃ (k : Nat), k ≤ n ∧ g = n - k ∧ si = .int .i64 k ∧ (∀ j, j < k → amB (l.getD j kAm.z) = true ∧ (0 < j → L.ltS (l.getD (j - 1) kAm.z).n (l.getD j kAm.z).n = true)) ∧ Below w.heap.size w wr)
    case atStart => exact ⟨0, Nat.zero_le _, rfl, rfl, fun j hj => absurd hj (Nat.not_lt_zero _), Below.refl _ _⟩
    case round =>
      obtain ⟨k, hk, hg, rfl, hpr, hb⟩ := hrel
      have R : Aside (gk = n - k ∧ (∀ j, j < k → amB (l.getD j kAm.z) = true ∧ (0 < j → L.ltS (l.getD (j - 1) kAm.z).n (l.getD j kAm.z).n = true)) ∧ Below w.heap.size w wr) := ⟨hg, hpr, hb⟩
      clear hg hpr hb
      by_cases hlt : k < n
      · have hlt' : (k : Int) < (n : Int) := by omega
        obtain ⟨b, off, rfl, pc⟩ := (V.out.below R.out.2.2).at k (by rw [← HN.out]; exact hlt)
        obtain ⟨x, hx⟩ : ∃ x, x = l.getD k kAm.z := ⟨_, rfl⟩
        rw [← hx] at pc
        have XX := Lib.hid hx
        obtain ⟨xn, xv⟩ := x
        have c0 : wr.cell? ⟨b, off + k * 2, none⟩ = some (.string xn) := pc 0 _ rfl
        have c1 : wr.cell? ⟨b, off + k * 2 + 1, none⟩ = some (.int .i64 xv) := pc 1 _ rfl
        obtain ⟨X, hX⟩ : ∃ X, X = wr.alloc (.cells #[.string xn, .int .i64 xv] 56) := ⟨_, rfl⟩
        have AX : Hid (Below wr.heap.size wr X) := Lib.hid (by rw [hX]; exact (Below.refl _ wr).alloc (Nat.le_refl _) _)
        have b0 : X.cell? ⟨wr.heap.size, 0, none⟩ = some (.string xn) := by rw [hX, World.cell?_alloc_new]; rfl
        have b1 : X.cell? ⟨wr.heap.size, 1, none⟩ = some (.int .i64 xv) := by rw [hX, World.cell?_alloc_new]; rfl
        have x0 : ∀ (dq : Nat) (os : Array Obj), (grow (redrawn X dq) os).cell? ⟨wr.heap.size, 0, none⟩ = some (.string xn) := fun dq os => cell_regrown b0 dq os
        have x1 : ∀ (dq : Nat) (os : Array Obj), (grow (redrawn X dq) os).cell? ⟨wr.heap.size, 1, none⟩ = some (.int .i64 xv) := fun dq os => cell_regrown b1 dq os
        have xB : Hid (∀ (dq : Nat) (os : Array Obj), Below wr.heap.size wr (grow (redrawn X dq) os)) := Lib.hid fun dq os => AX.out.trans ((below_regrown X dq os).mono AX.out.size)
        obtain ⟨am, ham⟩ : ∃ am, am = amB ⟨xn, xv⟩ := ⟨_, rfl⟩
        have xQ : Hid (∀ d os, Calls Tryz.prog 62 #[.agg #[.string xn, .int .i64 xv]] (grow (redrawn X d) os) fun e w'' => e = .returned (.bool am) ∧ ∃ p : Regrown, w'' = grow (redrawn X p.d) p.os) := Lib.hid fun d os => by
          rw [ham]; exact Calls.regrown_of (amount_any ⟨xn, xv⟩ _)
        have AM := Lib.hid ham
        have hX' := hX.symm
        clear hX hx pc b0 b1 ham
        cases am with
        | false =>
          have hr : Hid (amsC l = 31) := Lib.hid (by
            unfold amsC
            rw [if_neg (by rw [← HN.out]; omega), ams_no (k := k) (by rw [← HN.out]; exact hlt) (by rw [← XX.out]; exact AM.out.symm), if_neg (by simp)])
          go_wp2_with fail
          refine wp_region_quiet_below (by kernel_rfl) (by kernel_rfl) ?_
          repeat (go_big_quiet_step (exact xQ.out _ _))
          refine wpQuiet_nil ?_
          intro _ hw'
          obtain ⟨⟨dq, osq⟩, hw''⟩ := hw'
          subst hw''
          have xx := Lib.hid (xB.out dq osq)
          clear x0 x1 xB xQ hX'
          go_wp2_with fail
          go_ret
          exact ⟨by rw [hr.out]; rfl, R.out.2.2.trans (xx.out.mono R.out.2.2.size)⟩
        | true =>
          by_cases h0 : k = 0
          · subst h0
            simp only [Nat.zero_mul, Nat.add_zero] at c0 c1
            go_wp2_with fail
            refine wp_region_quiet_below (by kernel_rfl) (by kernel_rfl) ?_
            repeat (go_big_quiet_step (exact xQ.out _ _))
            refine wpQuiet_nil ?_
            intro _ hw'
            obtain ⟨⟨dq, osq⟩, hw''⟩ := hw'
            subst hw''
            have xx := Lib.hid (xB.out dq osq)
            clear x0 x1 xB xQ hX'
            obtain ⟨W, hW⟩ : ∃ W, W = grow (redrawn X dq) osq := ⟨_, rfl⟩
            rw [← hW] at xx ⊢
            clear hW
            go_wp2_with fail
            go_roundg (n - (0 + 1))
            case measure => have := R.out.1; omega
            case rel => exact ⟨1, by omega, rfl, rfl, fun j hj => by
              obtain rfl : j = 0 := by omega
              exact ⟨by rw [← XX.out]; exact AM.out.symm, fun h => absurd h (Nat.lt_irrefl _)⟩, R.out.2.2.trans (xx.out.mono R.out.2.2.size)⟩
          · obtain ⟨m, hm⟩ : ∃ m, m = k - 1 := ⟨_, rfl⟩
            have hkm : k = m + 1 := by omega
            obtain ⟨_, _, ea, pm⟩ := (V.out.below (R.out.2.2.trans (AX.out.mono R.out.2.2.size))).at m (by rw [← HN.out]; omega)
            cases ea
            obtain ⟨pk, hpk⟩ : ∃ pk, pk = (l.getD m kAm.z).n := ⟨_, rfl⟩
            have p0 : X.cell? ⟨b, off + m * 2, none⟩ = some (.string pk) := by rw [hpk]; exact pm 0 _ rfl
            have q0 : ∀ (dq : Nat) (os : Array Obj), (grow (redrawn X dq) os).cell? ⟨b, off + m * 2, none⟩ = some (.string pk) := fun dq os => cell_regrown p0 dq os
            have em : ((k : Int) - 1) = (m : Int) := by omega
            have gk : decide ((k : Int) > 0) = true := decide_eq_true (by omega)
            have gm : m < n := by omega
            have gk2 : decide (0 < k) = true := decide_eq_true (by omega)
            have wm : IntKind.i64.wrap ((k : Int) - 1) = (m : Int) := by rw [em]; simp [IntKind.wrap, IntKind.bits, IntKind.signed]; omega
            have PK := Lib.hid (And.intro hpk hkm)
            have K0 := Lib.hid h0
            clear hpk hkm hm p0 h0 pm
            cases hL : Op.bytesLess pk.toList xn.toList with
            | true =>
              go_wp2_with fail
              refine wp_region_quiet_below (by kernel_rfl) (by kernel_rfl) ?_
              repeat (go_big_quiet_step (exact xQ.out _ _))
              refine wpQuiet_nil ?_
              intro _ hw'
              obtain ⟨⟨dq, osq⟩, hw''⟩ := hw'
              subst hw''
              have xx := Lib.hid (xB.out dq osq)
              clear x0 x1 xB xQ hX' q0 em gk gm gk2 wm
              obtain ⟨W, hW⟩ : ∃ W, W = grow (redrawn X dq) osq := ⟨_, rfl⟩
              rw [← hW] at xx ⊢
              clear hW
              go_wp2_with fail
              go_roundg (n - (k + 1))
              case measure => have := R.out.1; omega
              case rel => exact ⟨k + 1, by omega, rfl, by go_num, fun j hj => by
                rcases Nat.lt_or_ge j k with h | h
                · exact R.out.2.1 j h
                · obtain rfl : j = k := by omega
                  refine ⟨by rw [← XX.out]; exact AM.out.symm, fun _ => ?_⟩
                  rw [show j - 1 = m by have := PK.out.2; omega, ← PK.out.1, ← XX.out]
                  exact hL, R.out.2.2.trans (xx.out.mono R.out.2.2.size)⟩
            | false =>
              have hr : Hid (amsC l = 31) := Lib.hid (by
                unfold amsC
                rw [if_neg (by rw [← HN.out]; omega), ams_down (k := k) (by rw [← HN.out]; exact hlt) (by have := K0.out; omega) (by rw [show k - 1 = m by have := PK.out.2; omega, ← PK.out.1, ← XX.out]; exact hL), if_neg (by simp)])
              go_wp2_with fail
              refine wp_region_quiet_below (by kernel_rfl) (by kernel_rfl) ?_
              repeat (go_big_quiet_step (exact xQ.out _ _))
              refine wpQuiet_nil ?_
              intro _ hw'
              obtain ⟨⟨dq, osq⟩, hw''⟩ := hw'
              subst hw''
              have xx := Lib.hid (xB.out dq osq)
              clear x0 x1 xB xQ hX' q0 em gk gm gk2 wm
              go_wp2_with fail
              go_ret
              exact ⟨by rw [hr.out]; rfl, R.out.2.2.trans (xx.out.mono R.out.2.2.size)⟩
      · have hr : Hid (amsC l = 0) := Lib.hid (by
          unfold amsC
          rw [if_neg (by rw [← HN.out]; omega), ams_yes (by rw [← HN.out]; exact h16) (fun j hj => R.out.2.1 j (by have := HN.out; omega)), if_pos rfl])
        go_wp2_with fail
        go_ret
        exact ⟨by rw [hr.out]; rfl, R.out.2.2⟩
  · have g16 : decide ((n : Int) > 16) = true := decide_eq_true (by omega)
    have hr : Hid (amsC l = 23) := Lib.hid (by unfold amsC; rw [if_pos (by rw [← HN.out]; omega)])
    go_enter Tryz.func71, Tryz.ntmps71
    go_wp2_with fail
    go_ret
    exact ⟨by rw [hr.out]; rfl, Below.refl _ _⟩
end Go.Proofs.YtehgnbgbmicheaaGreatDoor
