/-
  LsA, LsB, LsC, LsD, LsE, LsF, LawLists, joined.
-/
import Derived.Test.YtmkdmfjdhajiaaaGreatDoorObRb
import Derived.Test.YtmkdmfjdhajiaaaGreatDoorNrV
import Derived.Lib.QuietBelow
import Derived.BigQuiet
import Derived.Test.YtmkdmfjdhajiaaaGreatDoorQlB
import Derived.Test.YtmkdmfjdhajiaaaGreatDoorQlA
import Derived.Deep.RegionWith
import Derived.Maps.AppendAt
import Derived.RegionTactic
import Derived.Deep.RegionLaw
import Derived.Test.YtmkdmfjdhajiaaaGreatDoorKnownK
import Derived.Test.YtmkdmfjdhajiaaaGreatDoorFinds
import Derived.Deep.DeepCutAuto
section S0
namespace Go.Proofs.YtmkdmfjdhajiaaaGreatDoor
open Go.RowKit Go.Lib
open Go.Sort (grow)
theorem less_dec (a b : ByteArray) : Op.bytesLess a.toList b.toList = decide (a.data.toList < b.data.toList) := ltS_eq a b
theorem tri (a b : ByteArray) : (Op.bytesLess b.toList a.toList = true ∧ Op.bytesLess a.toList b.toList = false ∧ (a.toList == b.toList) = false) ∨ (Op.bytesLess b.toList a.toList = false ∧ Op.bytesLess a.toList b.toList = true ∧ (a.toList == b.toList) = false) ∨ (Op.bytesLess b.toList a.toList = false ∧ Op.bytesLess a.toList b.toList = false ∧ (a.toList == b.toList) = true) := by
  rw [less_dec, less_dec, ByteArray.toList_eq, ByteArray.toList_eq]
  by_cases h1 : b.data.toList < a.data.toList
  · refine Or.inl ⟨decide_eq_true h1, decide_eq_false (List.lt_asymm h1), ?_⟩
    rw [beq_eq_false_iff_ne]
    intro e
    rw [e] at h1
    exact List.lt_irrefl _ h1
  · by_cases h2 : a.data.toList < b.data.toList
    · refine Or.inr (Or.inl ⟨decide_eq_false h1, decide_eq_true h2, ?_⟩)
      rw [beq_eq_false_iff_ne]
      intro e
      rw [e] at h2
      exact List.lt_irrefl _ h2
    · refine Or.inr (Or.inr ⟨decide_eq_false h1, decide_eq_false h2, ?_⟩)
      rw [beq_iff_eq]
      exact List.le_antisymm (List.not_lt.1 h1) (List.not_lt.1 h2)
set_option maxHeartbeats 16000000 in
set_option maxRecDepth 100000 in
theorem refValid_any (v : Value) (l : List Am) (w : World) (hv : Row kAm w v l) (hf : ∀ x ∈ l, x.n.size ≤ 140737488355328) :
    Calls Tryz.prog 7 #[v] w fun e w' => e = .returned (.int .i64 (amsC l)) ∧ Below w.heap.size w w' := by
  have V := Lib.hid hv
  have HF := Lib.hid hf
  obtain ⟨a, cap, rfl, hlc, hcm⟩ := hv.len
  unfold maxLen at hcm
  obtain ⟨n, hn⟩ : ∃ n, n = l.length := ⟨_, rfl⟩
  rw [← hn] at hlc V ⊢
  have HN := Lib.hid hn
  clear hv hn hf
  obtain ⟨C, hC⟩ : ∃ C, C = amsC l := ⟨_, rfl⟩
  rw [← hC]
  have HC := Lib.hid hC
  clear hC
  by_cases h16 : n ≤ 16
  · have g16 : decide ((n : Int) > 16) = false := decide_eq_false (by omega)
    have BAD : Hid (amsB l = false → C = 31) := Lib.hid fun h => by rw [HC.out]; unfold amsC; rw [if_neg (by rw [← HN.out]; omega), h, if_neg (by simp)]
    go_enter Tryz.func7, Tryz.ntmps7
    go_wp2_with fail
    clear g16
    go_loopg [3] n (fun g si wr => ∃ (k : Nat), k ≤ n ∧ g = n - k ∧ si = .int .i64 k ∧ (∀ j, j < k → amB (l.getD j kAm.z) = true ∧ (0 < j → L.ltS (l.getD (j - 1) kAm.z).n (l.getD j kAm.z).n = true)) ∧ Below w.heap.size w wr)
    case atStart => exact ⟨0, Nat.zero_le _, rfl, rfl, fun j hj => absurd hj (Nat.not_lt_zero _), Below.refl _ _⟩
    case round =>
      obtain ⟨k, hk, hg, rfl, hpr, hb⟩ := hrel
      have R : Aside (gk = n - k ∧ (∀ j, j < k → amB (l.getD j kAm.z) = true ∧ (0 < j → L.ltS (l.getD (j - 1) kAm.z).n (l.getD j kAm.z).n = true)) ∧ Below w.heap.size w wr) := ⟨hg, hpr, hb⟩
      clear hg hpr hb
      by_cases hlt : k < n
      · have hlt' : (k : Int) < (n : Int) := by omega
        have hl2 : k < l.length := by rw [← HN.out]; exact hlt
        have XF := Lib.hid (HF.out _ (getD_in (d := kAm.z) hl2))
        have HL2 := Lib.hid hl2
        obtain ⟨b, off, rfl, pc⟩ := (V.out.below R.out.2.2).at k hl2
        obtain ⟨x, hx⟩ : ∃ x, x = l.getD k kAm.z := ⟨_, rfl⟩
        rw [← hx] at pc XF
        have XX := Lib.hid hx
        obtain ⟨xn, xv⟩ := x
        have c0 : wr.cell? ⟨b, off + k * 2, none⟩ = some (.string xn) := pc 0 _ rfl
        have c1 : wr.cell? ⟨b, off + k * 2 + 1, none⟩ = some (.int .i64 xv) := pc 1 _ rfl
        have xB : Hid (∀ (dq : Nat) (os : Array Obj), Below wr.heap.size wr (grow (redrawn wr dq) os)) := Lib.hid fun dq os => below_regrown wr dq os
        have x0 : ∀ (dq : Nat) (os : Array Obj), (grow (redrawn wr dq) os).cell? ⟨b, off + k * 2, none⟩ = some (.string xn) := fun dq os => cell_regrown c0 dq os
        have x1 : ∀ (dq : Nat) (os : Array Obj), (grow (redrawn wr dq) os).cell? ⟨b, off + k * 2 + 1, none⟩ = some (.int .i64 xv) := fun dq os => cell_regrown c1 dq os
        obtain ⟨rs, hrs⟩ : ∃ rs, rs = resB xn := ⟨_, rfl⟩
        have xQ : Hid (∀ d os, Calls Tryz.prog 21 #[.string xn] (grow (redrawn wr d) os) fun e w'' => e = .returned (.bool rs) ∧ ∃ p : Regrown, w'' = grow (redrawn wr p.d) p.os) := Lib.hid fun d os => by
          rw [hrs]; exact Calls.regrown_of ((refRes_any xn _ XF.out).mono fun _ _ q => ⟨q.1, by rw [q.2]; exact Below.refl _ _⟩)
        have RS := Lib.hid hrs
        clear hrs hx pc hl2
        cases rs with
        | false =>
          have NO : Hid (C = 31) := Lib.hid (BAD.out (ams_no (k := k) HL2.out (by rw [← XX.out]; unfold amB; simp only; rw [← RS.out]; simp)))
          go_wp2_with fail
          refine wp_region_quiet_below (by kernel_rfl) (by kernel_rfl) ?_
          repeat (go_big_quiet_step (exact xQ.out _ _))
          refine wpQuiet_nil ?_
          intro _ hw'
          obtain ⟨⟨dq, osq⟩, hw''⟩ := hw'
          subst hw''
          have xx := Lib.hid (xB.out dq osq)
          clear x0 x1 c0 c1 xB xQ
          go_wp2_with fail
          go_ret
          exact ⟨by rw [NO.out]; rfl, R.out.2.2.trans (xx.out.mono R.out.2.2.size)⟩
        | true =>
          by_cases zv : 0 ≤ xv
          · have gv : decide (xv < 0) = false := decide_eq_false (by omega)
            have AM : Hid (amB ⟨xn, xv⟩ = true) := Lib.hid (by unfold amB; simp only; rw [← RS.out, decide_eq_true zv]; rfl)
            by_cases h0 : k = 0
            · subst h0
              simp only [Nat.zero_mul, Nat.add_zero] at c0 c1 x0 x1
              clear zv
              go_wp2_with fail
              refine wp_region_quiet_below (by kernel_rfl) (by kernel_rfl) ?_
              repeat (go_big_quiet_step (exact xQ.out _ _))
              refine wpQuiet_nil ?_
              intro _ hw'
              obtain ⟨⟨dq, osq⟩, hw''⟩ := hw'
              subst hw''
              have xx := Lib.hid (xB.out dq osq)
              clear x0 x1 c0 c1 xB xQ gv
              obtain ⟨W, hW⟩ : ∃ W, W = grow (redrawn wr dq) osq := ⟨_, rfl⟩
              rw [← hW] at xx ⊢
              clear hW
              go_wp2_with fail
              go_roundg (n - (0 + 1))
              case measure => have := R.out.1; omega
              case rel => exact ⟨1, by omega, rfl, rfl, fun j hj => by
                obtain rfl : j = 0 := by omega
                exact ⟨by rw [← XX.out]; exact AM.out, fun h => absurd h (Nat.lt_irrefl _)⟩, R.out.2.2.trans (xx.out.mono R.out.2.2.size)⟩
            · obtain ⟨m, hm⟩ : ∃ m, m = k - 1 := ⟨_, rfl⟩
              have hkm : k = m + 1 := by omega
              obtain ⟨_, _, ea, pm⟩ := (V.out.below R.out.2.2).at m (by rw [← HN.out]; omega)
              cases ea
              obtain ⟨pk, hpk⟩ : ∃ pk, pk = (l.getD m kAm.z).n := ⟨_, rfl⟩
              have p0 : wr.cell? ⟨b, off + m * 2, none⟩ = some (.string pk) := by rw [hpk]; exact pm 0 _ rfl
              have q0 : ∀ (dq : Nat) (os : Array Obj), (grow (redrawn wr dq) os).cell? ⟨b, off + m * 2, none⟩ = some (.string pk) := fun dq os => cell_regrown p0 dq os
              have em : ((k : Int) - 1) = (m : Int) := by omega
              have gk : decide ((k : Int) > 0) = true := decide_eq_true (by omega)
              have gm : m < n := by omega
              have gk2 : decide (0 < k) = true := decide_eq_true (by omega)
              have wm : IntKind.i64.wrap ((k : Int) - 1) = (m : Int) := by rw [em]; simp [IntKind.wrap, IntKind.bits, IntKind.signed]; omega
              have PK := Lib.hid (And.intro hpk hkm)
              have K0 := Lib.hid h0
              clear hpk hkm hm p0 h0 pm zv
              rcases tri xn pk with ⟨t1, t2, t3⟩ | ⟨t1, t2, t3⟩ | ⟨t1, t2, t3⟩
              · have UP := Lib.hid t1
                clear t1
                go_wp2_with fail
                refine wp_region_quiet_below (by kernel_rfl) (by kernel_rfl) ?_
                repeat (go_big_quiet_step (exact xQ.out _ _))
                refine wpQuiet_nil ?_
                intro _ hw'
                obtain ⟨⟨dq, osq⟩, hw''⟩ := hw'
                subst hw''
                have xx := Lib.hid (xB.out dq osq)
                clear x0 x1 xB xQ q0 em gk gm gk2 wm c0 c1 gv t2 t3
                obtain ⟨W, hW⟩ : ∃ W, W = grow (redrawn wr dq) osq := ⟨_, rfl⟩
                rw [← hW] at xx ⊢
                clear hW
                go_wp2_with fail
                go_roundg (n - (k + 1))
                case measure => have := R.out.1; omega
                case rel => exact ⟨k + 1, by omega, rfl, by go_num, fun j hj => by
                  rcases Nat.lt_or_ge j k with h | h
                  · exact R.out.2.1 j h
                  · obtain rfl : j = k := by omega
                    refine ⟨by rw [← XX.out]; exact AM.out, fun _ => ?_⟩
                    rw [show j - 1 = m by have := PK.out.2; omega, ← PK.out.1, ← XX.out]
                    exact UP.out, R.out.2.2.trans (xx.out.mono R.out.2.2.size)⟩
              · have NO : Hid (C = 31) := Lib.hid (BAD.out (ams_down (k := k) HL2.out (by have := K0.out; omega) (by rw [show k - 1 = m by have := PK.out.2; omega, ← PK.out.1, ← XX.out]; exact t1)))
                clear t1
                go_wp2_with fail
                refine wp_region_quiet_below (by kernel_rfl) (by kernel_rfl) ?_
                repeat (go_big_quiet_step (exact xQ.out _ _))
                refine wpQuiet_nil ?_
                intro _ hw'
                obtain ⟨⟨dq, osq⟩, hw''⟩ := hw'
                subst hw''
                have xx := Lib.hid (xB.out dq osq)
                clear x0 x1 xB xQ q0 em gk gm gk2 wm c0 c1 gv t2 t3
                go_wp2_with fail
                go_ret
                exact ⟨by rw [NO.out]; rfl, R.out.2.2.trans (xx.out.mono R.out.2.2.size)⟩
              · have NO : Hid (C = 31) := Lib.hid (BAD.out (ams_down (k := k) HL2.out (by have := K0.out; omega) (by rw [show k - 1 = m by have := PK.out.2; omega, ← PK.out.1, ← XX.out]; exact t1)))
                clear t1
                go_wp2_with fail
                refine wp_region_quiet_below (by kernel_rfl) (by kernel_rfl) ?_
                repeat (go_big_quiet_step (exact xQ.out _ _))
                refine wpQuiet_nil ?_
                intro _ hw'
                obtain ⟨⟨dq, osq⟩, hw''⟩ := hw'
                subst hw''
                have xx := Lib.hid (xB.out dq osq)
                clear x0 x1 xB xQ q0 em gk gm gk2 wm c0 c1 gv t2 t3
                go_wp2_with fail
                go_ret
                exact ⟨by rw [NO.out]; rfl, R.out.2.2.trans (xx.out.mono R.out.2.2.size)⟩
          · have gv : decide (xv < 0) = true := decide_eq_true (by omega)
            have NO : Hid (C = 31) := Lib.hid (BAD.out (ams_no (k := k) HL2.out (by rw [← XX.out]; unfold amB; simp only; rw [decide_eq_false zv]; simp)))
            clear zv
            go_wp2_with fail
            refine wp_region_quiet_below (by kernel_rfl) (by kernel_rfl) ?_
            repeat (go_big_quiet_step (exact xQ.out _ _))
            refine wpQuiet_nil ?_
            intro _ hw'
            obtain ⟨⟨dq, osq⟩, hw''⟩ := hw'
            subst hw''
            have xx := Lib.hid (xB.out dq osq)
            clear x0 x1 c0 c1 xB xQ
            go_wp2_with fail
            go_ret
            exact ⟨by rw [NO.out]; rfl, R.out.2.2.trans (xx.out.mono R.out.2.2.size)⟩
      · have hr : Hid (C = 0) := Lib.hid (by
          rw [HC.out]
          unfold amsC
          rw [if_neg (by rw [← HN.out]; omega), ams_yes (by rw [← HN.out]; exact h16) (fun j hj => R.out.2.1 j (by have := HN.out; omega)), if_pos rfl])
        have hge : decide ((k : Int) < (n : Int)) = false := decide_eq_false (by omega)
        go_wp2_with fail
        go_ret
        exact ⟨by rw [hr.out]; rfl, R.out.2.2⟩
  · have g16 : decide ((n : Int) > 16) = true := decide_eq_true (by omega)
    have hr : Hid (C = 23) := Lib.hid (by rw [HC.out]; unfold amsC; rw [if_pos (by rw [← HN.out]; omega)])
    clear h16
    go_enter Tryz.func7, Tryz.ntmps7
    go_wp2_with fail
    go_ret
    exact ⟨by rw [hr.out]; rfl, Below.refl _ _⟩
end Go.Proofs.YtmkdmfjdhajiaaaGreatDoor
end S0

section S1
namespace Go.Proofs.YtmkdmfjdhajiaaaGreatDoor
open Go.RowKit Go.Lib
open Go.Sort (grow)
/-- An amount ahead of the first one of a greater name. -/
def plc (a : Am) : List Am → List Am
  | [] => [a]
  | x :: r => if a.n.data.toList < x.n.data.toList then a :: x :: r else x :: plc a r
theorem plc_perm (a : Am) (l : List Am) : (plc a l).Perm (a :: l) := by
  induction l with
  | nil => exact List.Perm.refl _
  | cons x r ih =>
    unfold plc
    split
    · exact List.Perm.refl _
    · exact (List.Perm.cons x ih).trans (List.Perm.swap a x r)
theorem plc_mem (a : Am) (l : List Am) (y : Am) : y ∈ plc a l ↔ y = a ∨ y ∈ l := by rw [(plc_perm a l).mem_iff, List.mem_cons]
theorem plc_len (a : Am) (l : List Am) : (plc a l).length = l.length + 1 := by rw [(plc_perm a l).length_eq]; rfl
theorem plc_str {a : Am} {l : List Am} (h : Str l) (hn : ∀ x ∈ l, x.n.data.toList ≠ a.n.data.toList) : Str (plc a l) := by
  induction l with
  | nil => exact List.pairwise_singleton _ _
  | cons x r ih =>
    obtain ⟨h1, h2⟩ := List.pairwise_cons.1 h
    unfold plc
    split
    · rename_i z
      refine List.pairwise_cons.2 ⟨fun y hy => ?_, h⟩
      rcases List.mem_cons.1 hy with e | e
      · subst e; exact z
      · exact List.lt_trans z (h1 y e)
    · rename_i z
      have zx : x.n.data.toList < a.n.data.toList := by
        have h3 : x.n.data.toList ≤ a.n.data.toList := List.not_lt.1 z
        by_cases q : x.n.data.toList < a.n.data.toList
        · exact q
        · exact absurd (List.le_antisymm h3 (List.not_lt.1 q)) (hn x (by simp))
      refine List.pairwise_cons.2 ⟨fun y hy => ?_, ih h2 (fun y hy => hn y (by simp [hy]))⟩
      rcases (plc_mem a r y).1 hy with e | e
      · subst e; exact zx
      · exact h1 y e
theorem plc_yes {a x : Am} {r : List Am} (h : Op.bytesLess a.n.toList x.n.toList = true) : plc a (x :: r) = a :: x :: r := by
  rw [less_dec] at h
  unfold plc; rw [if_pos (of_decide_eq_true h)]
theorem plc_no {a x : Am} {r : List Am} (h : Op.bytesLess a.n.toList x.n.toList = false) : plc a (x :: r) = x :: plc a r := by
  rw [less_dec] at h
  rw [plc]; rw [if_neg (of_decide_eq_false h)]
theorem drop_at (l : List Am) (k : Nat) (h : k < l.length) : l.drop k = l.getD k kAm.z :: l.drop (k + 1) := by
  rw [List.drop_eq_getElem_cons h, List.getD_eq_getElem?_getD, List.getElem?_eq_getElem h]; rfl
theorem bel_drewN (w : World) (n : Nat) : Below w.heap.size w (w.drewN n) := ⟨rfl, rfl, rfl, Nat.le_refl _, fun _ _ => rfl⟩
theorem len_snoc (o : List Am) (a : Am) : (o ++ [a]).length = o.length + 1 := by simp
theorem two_more {m n : Nat} (h : m + 1 ≤ n) (hz : (n + 1) * 24 ≤ 140737488355328) : (m + 1 + 1) * kAm.b ≤ 140737488355328 := by
  exact Nat.le_trans (Nat.mul_le_mul_right 24 (Nat.succ_le_succ h)) hz
/-- What placed holds while it walks. -/
structure Pl (w : World) (a : Am) (l : List Am) (k : Nat) (d : Bool) (W : World) (ov : Value) (o : List Am) : Prop where
  own : OwnR kAm (w.heap.size + 1) W ov o
  eq : o ++ (if d = true then l.drop k else plc a (l.drop k)) = plc a l
  box : W.heap[w.heap.size]? = some (.cells #[.string a.n, .int .i64 a.v] 36 (0, 0))
  be : Below w.heap.size w W
  sz : w.heap.size + 1 ≤ W.heap.size
theorem Pl.below {w W W' : World} {a : Am} {l : List Am} {k : Nat} {d : Bool} {ov : Value} {o : List Am} (h : Pl w a l k d W ov o) (hb : Below W.heap.size W W') : Pl w a l k d W' ov o :=
  ⟨h.own.below hb, h.eq, (hb.block _ (by have := h.sz; omega)).trans h.box, h.be.trans (hb.mono h.be.size), Nat.le_trans h.sz hb.size⟩
theorem Pl.len {w W : World} {a : Am} {l : List Am} {k : Nat} {d : Bool} {ov : Value} {o : List Am} (h : Pl w a l k d W ov o) : o.length ≤ l.length + 1 := by
  have := congrArg List.length h.eq
  rw [List.length_append, plc_len] at this
  omega
theorem Pl.len2 {w W : World} {a : Am} {l : List Am} {k : Nat} {d : Bool} {ov : Value} {o : List Am} (h : Pl w a l k d W ov o) (hk : k ≤ l.length) : o.length = k + (if d = true then 1 else 0) := by
  have := congrArg List.length h.eq
  rw [List.length_append, plc_len] at this
  cases d
  · simp only [Bool.false_eq_true, if_false, plc_len, List.length_drop] at this ⊢; omega
  · simp only [if_true, List.length_drop] at this ⊢; omega
theorem Pl.cells {w W : World} {a : Am} {l : List Am} {k : Nat} {d : Bool} {ov : Value} {o : List Am} (h : Pl w a l k d W ov o) : W.cell? ⟨w.heap.size, 0, none⟩ = some (.string a.n) ∧ W.cell? ⟨w.heap.size, 1, none⟩ = some (.int .i64 a.v) := by
  constructor <;> (rw [cell_of_row W _ _ _ _ _ h.box]; rfl)
/-- One more behind what is there. -/
theorem Pl.more {w W W' : World} {a : Am} {l : List Am} {k k' : Nat} {d d' : Bool} {ov ov' : Value} {o : List Am} (h : Pl w a l k d W ov o) (y : Am) (ho : OwnR kAm (w.heap.size + 1) W' ov' (o ++ [y])) (hg : W.grownBy W' ov.ownBlock) (he : (o ++ [y]) ++ (if d' = true then l.drop k' else plc a (l.drop k')) = plc a l) : Pl w a l k' d' W' ov' (o ++ [y]) := by
  have b := grown_belowR hg h.own h.sz
  have b2 : Below w.heap.size w W' := h.be.trans (b.mono (Nat.le_succ _))
  exact ⟨ho, he, (b.block _ (Nat.lt_succ_self _)).trans h.box, b2, Nat.le_trans h.sz b.size⟩
set_option maxHeartbeats 16000000 in
set_option maxRecDepth 100000 in
theorem placed_any (v : Value) (l : List Am) (a : Am) (w : World) (hv : Row kAm w v l) (hz : (l.length + 1) * 24 ≤ 140737488355328) :
    Calls Tryz.prog 30 #[v, .agg #[.string a.n, .int .i64 a.v]] w fun e w' => ∃ oa on oc, e = .returned (.slice oa on oc) ∧ OwnR kAm w.heap.size w' (.slice oa on oc) (plc a l) ∧ Below w.heap.size w w' := by
  have V := Lib.hid hv
  obtain ⟨va, cap, rfl, hlc, hcm⟩ := hv.len
  unfold maxLen at hcm
  obtain ⟨n, hn⟩ : ∃ n, n = l.length := ⟨_, rfl⟩
  rw [← hn] at hlc V hz ⊢
  have HN := Lib.hid hn
  have HZ := Lib.hid hz
  have hn47 : n ≤ 140737488355328 := by omega
  obtain ⟨A, hA⟩ : ∃ A, A = a := ⟨_, rfl⟩
  have HA := Lib.hid hA
  obtain ⟨an, av⟩ := a
  simp only
  obtain ⟨X, hX⟩ : ∃ X, X = w.alloc (.cells #[.string an, .int .i64 av] 36) := ⟨_, rfl⟩
  have P0 : Hid (Pl w A l 0 false X (.slice none 0 0) []) := Lib.hid ⟨OwnR.nil _ _ _, by simp, by rw [hX, hA, heap_alloc_new], by rw [hX]; exact (Below.refl _ w).alloc (Nat.le_refl _) _, by rw [hX, World.size_alloc]; exact Nat.le_refl _⟩
  have hX' := hX.symm
  clear hv hn hz hX hA
  rw [← HA.out]
  go_enter Tryz.func30, Tryz.ntmps30
  go_wp2_with fail
  clear hX'
  go_loopg [5, 6, 7] n (fun g so sd si wr => ∃ (k : Nat) (d : Bool) (oa : Option Addr) (on oc : Nat) (o : List Am), g = n - k ∧ k ≤ n ∧ si = .int .i64 k ∧ sd = .bool d ∧ so = .slice oa on oc ∧ Pl w A l k d wr (.slice oa on oc) o)
  case atStart => exact ⟨0, false, none, 0, 0, [], rfl, Nat.zero_le _, rfl, rfl, rfl, P0.out⟩
  case round =>
    clear P0
    obtain ⟨k, d, oa, on, oc, o, hg, hk, rfl, rfl, rfl, hp⟩ := hrel
    have R : Hid (gk = n - k ∧ Pl w A l k d wr (.slice oa on oc) o) := Lib.hid ⟨hg, hp⟩
    obtain ⟨u0, u1⟩ := hp.cells
    rw [HA.out] at u0 u1
    simp only at u0 u1
    clear hg hp
    have BD := Lib.hid (bel_drewN wr)
    by_cases hlt : k < n
    · have hlt' : (k : Int) < (n : Int) := by omega
      have hl2 : k < l.length := by rw [← HN.out]; exact hlt
      have VK : Hid (∀ W, Below w.heap.size w W → Row kAm W (.slice va n cap) l) := Lib.hid fun W h => V.out.below h
      obtain ⟨b, off, rfl, pc⟩ := (V.out.below R.out.2.be).at k hl2
      obtain ⟨x, hx⟩ : ∃ x, x = l.getD k kAm.z := ⟨_, rfl⟩
      rw [← hx] at pc
      have DK : Hid (l.drop k = x :: l.drop (k + 1)) := Lib.hid (by rw [drop_at l k hl2, hx])
      obtain ⟨xn, xv⟩ := x
      have c0 : wr.cell? ⟨b, off + k * 2, none⟩ = some (.string xn) := pc 0 _ rfl
      have c1 : wr.cell? ⟨b, off + k * 2 + 1, none⟩ = some (.int .i64 xv) := pc 1 _ rfl
      have bl : b < wr.heap.size := block_lt_of_cell c0
      have bw : Hid (∀ W, Below w.heap.size w W → W.cell? ⟨b, off + k * 2, none⟩ = some (.string xn) ∧ W.cell? ⟨b, off + k * 2 + 1, none⟩ = some (.int .i64 xv)) := Lib.hid fun W h => by
        obtain ⟨b', off', ea, pc'⟩ := (VK.out W h).at k hl2
        simp only [Option.some.injEq, Addr.mk.injEq, and_true] at ea
        obtain ⟨rfl, rfl⟩ := ea
        rw [← hx] at pc'
        exact ⟨pc' 0 _ rfl, pc' 1 _ rfl⟩
      have d0 : ∀ M, (wr.drewN M).cell? ⟨b, off + k * 2, none⟩ = some (.string xn) := fun M => c0
      have e0 : ∀ M, (wr.drewN M).cell? ⟨w.heap.size, 0, none⟩ = some (.string an) := fun M => u0
      have e1 : ∀ M, (wr.drewN M).cell? ⟨w.heap.size, 1, none⟩ = some (.int .i64 av) := fun M => u1
      have d1 : ∀ M, (wr.drewN M).cell? ⟨b, off + k * 2 + 1, none⟩ = some (.int .i64 xv) := fun M => c1
      clear pc hx hl2
      cases d with
      | true =>
        have LX : Hid ((o.length + 1) * kAm.b ≤ 140737488355328) := Lib.hid (by have := R.out.2.len2 (by rw [← HN.out]; exact hk); simp at this; have := HZ.out; show (o.length + 1) * 24 ≤ _; omega)
        go_wp2_with fail
        go_quiet (fail)
        obtain ⟨wd, hwd⟩ : ∃ W, W = wr.drewN nq := ⟨_, rfl⟩
        have PD := Lib.hid (R.out.2.below (by rw [hwd]; exact BD.out nq : Below wr.heap.size wr wd))
        obtain ⟨f0, f1⟩ := bw.out wd PD.out.be
        rw [← hwd]
        clear hwd c0 c1 d0 d1 e0 e1 u0 u1
        go_wp2_with (at_builtin; refine app_rowB okAm (gg := wd.heap.size) rfl _ _ rfl rfl PD.out.own PD.out.sz (⟨xn, xv⟩ : Am) (by simp) rfl rfl LX.out ?_; intro v' w' h1 h2)
        obtain ⟨a2, c2, rfl⟩ := h1.slice
        have PE : Hid (Pl w A l (k + 1) true w' (.slice a2 (o ++ [(⟨xn, xv⟩ : Am)]).length c2) (o ++ [(⟨xn, xv⟩ : Am)])) := Lib.hid (PD.out.more _ h1 h2 (by have q := PD.out.eq; simp only [if_true] at q ⊢; rw [DK.out] at q; rw [List.append_assoc]; exact q))
        clear h1 h2
        go_wp2_with fail
        go_roundg (n - (k + 1))
        case measure => have := R.out.1; omega
        case rel => exact ⟨k + 1, true, a2, _, c2, _, rfl, by omega, by go_num, rfl, rfl, PE.out⟩
      | false =>
        have LX : Hid (o.length = k) := Lib.hid (by have := R.out.2.len2 (by rw [← HN.out]; exact hk); simpa using this)
        have LX1 : Hid ((o.length + 1) * kAm.b ≤ 140737488355328) := Lib.hid (by have := LX.out; have := HZ.out; show (o.length + 1) * 24 ≤ _; omega)
        cases hL : Op.bytesLess an.toList xn.toList with
        | true =>
          have LX2 : Hid (((o ++ [A]).length + 1) * kAm.b ≤ 140737488355328) := Lib.hid (by rw [len_snoc]; exact two_more (by have := LX.out; omega) HZ.out)
          have PY : Hid (plc A (l.drop k) = A :: (⟨xn, xv⟩ : Am) :: l.drop (k + 1)) := Lib.hid (by rw [DK.out]; exact plc_yes (by rw [HA.out]; exact hL))
          go_wp2_with fail
          go_quiet (fail)
          obtain ⟨wd, hwd⟩ : ∃ W, W = wr.drewN nq := ⟨_, rfl⟩
          have PD := Lib.hid (R.out.2.below (by rw [hwd]; exact BD.out nq : Below wr.heap.size wr wd))
          obtain ⟨f2, f3⟩ := PD.out.cells
          rw [HA.out] at f2 f3
          simp only at f2 f3
          rw [← hwd]
          clear hwd c0 c1 d0 d1 e0 e1 u0 u1 hL
          have M1 : True := trivial
          go_wp2_with (first
            | (at_builtin; clear M1; refine app_rowB okAm (gg := wd.heap.size) rfl _ _ rfl rfl PD.out.own PD.out.sz A (by simp) (by rw [HA.out]; rfl) rfl LX1.out ?_; intro v1 w1 h1 h2; obtain ⟨a1, c1, rfl⟩ := h1.slice; obtain ⟨m1, hm1⟩ : ∃ m, m = (o ++ [A]).length := ⟨_, rfl⟩; rw [← hm1] at h1 ⊢; clear hm1; have P1 : Hid (Pl w A l k true w1 (.slice a1 m1 c1) (o ++ [A])) := Lib.hid (PD.out.more _ h1 h2 (by have q := PD.out.eq; simp only [if_true]; rw [if_neg (by simp), PY.out] at q; rw [DK.out, List.append_assoc]; exact q)); obtain ⟨f0, f1⟩ := bw.out w1 P1.out.be; clear h1 h2)
            | (at_builtin; refine app_rowB okAm (gg := w1.heap.size) rfl _ _ rfl rfl P1.out.own P1.out.sz (⟨xn, xv⟩ : Am) (by simp) rfl rfl LX2.out ?_; intro v' w' h1 h2))
          obtain ⟨a2, c2, rfl⟩ := h1.slice
          have PE : Hid (Pl w A l (k + 1) true w' (.slice a2 (o ++ [A] ++ [(⟨xn, xv⟩ : Am)]).length c2) (o ++ [A] ++ [(⟨xn, xv⟩ : Am)])) := Lib.hid (P1.out.more _ h1 h2 (by have q := P1.out.eq; simp only [if_true] at q ⊢; rw [DK.out] at q; rw [List.append_assoc (o ++ [A])]; exact q))
          clear h1 h2
          go_wp2_with fail
          go_roundg (n - (k + 1))
          case measure => have := R.out.1; omega
          case rel => exact ⟨k + 1, true, a2, _, c2, _, rfl, by omega, by go_num, rfl, rfl, PE.out⟩
        | false =>
          have PY : Hid (plc A (l.drop k) = (⟨xn, xv⟩ : Am) :: plc A (l.drop (k + 1))) := Lib.hid (by rw [DK.out]; exact plc_no (by rw [HA.out]; exact hL))
          go_wp2_with fail
          go_quiet (fail)
          obtain ⟨wd, hwd⟩ : ∃ W, W = wr.drewN nq := ⟨_, rfl⟩
          have PD := Lib.hid (R.out.2.below (by rw [hwd]; exact BD.out nq : Below wr.heap.size wr wd))
          obtain ⟨f0, f1⟩ := bw.out wd PD.out.be
          rw [← hwd]
          clear hwd c0 c1 d0 d1 e0 e1 u0 u1 hL
          go_wp2_with (at_builtin; refine app_rowB okAm (gg := wd.heap.size) rfl _ _ rfl rfl PD.out.own PD.out.sz (⟨xn, xv⟩ : Am) (by simp) rfl rfl LX1.out ?_; intro v' w' h1 h2)
          obtain ⟨a2, c2, rfl⟩ := h1.slice
          have PE : Hid (Pl w A l (k + 1) false w' (.slice a2 (o ++ [(⟨xn, xv⟩ : Am)]).length c2) (o ++ [(⟨xn, xv⟩ : Am)])) := Lib.hid (PD.out.more _ h1 h2 (by have q := PD.out.eq; rw [if_neg (by simp)] at q ⊢; rw [PY.out] at q; rw [List.append_assoc]; exact q))
          clear h1 h2
          go_wp2_with fail
          go_roundg (n - (k + 1))
          case measure => have := R.out.1; omega
          case rel => exact ⟨k + 1, false, a2, _, c2, _, rfl, by omega, by go_num, rfl, rfl, PE.out⟩
    · have hkn : k = n := by omega
      have hge : decide ((k : Int) < (n : Int)) = false := decide_eq_false (by omega)
      have DK : Hid (l.drop k = []) := Lib.hid (List.drop_eq_nil_of_le (by rw [hkn, HN.out]; exact Nat.le_refl _))
      have KN := Lib.hid hkn
      clear hkn
      cases d with
      | true =>
        have E : Hid (o = plc A l) := Lib.hid (by have q := R.out.2.eq; simp only [if_true] at q; rw [DK.out, List.append_nil] at q; exact q)
        go_wp2_with fail
        go_ret
        exact ⟨oa, on, oc, rfl, by rw [← E.out]; exact R.out.2.own.mono (Nat.le_succ _), R.out.2.be⟩
      | false =>
        have LX : Hid ((o.length + 1) * kAm.b ≤ 140737488355328) := Lib.hid (by have := R.out.2.len2 (by rw [← HN.out]; exact hk); simp at this; have := HZ.out; have := KN.out; show (o.length + 1) * 24 ≤ _; omega)
        go_wp2_with (at_builtin; refine app_rowB okAm (gg := wr.heap.size) rfl _ _ rfl rfl R.out.2.own R.out.2.sz A (by simp) (by rw [HA.out]; rfl) rfl LX.out ?_; intro v' w' h1 h2)
        obtain ⟨a2, c2, rfl⟩ := h1.slice
        have PE : Hid (Pl w A l k true w' (.slice a2 (o ++ [A]).length c2) (o ++ [A])) := Lib.hid (R.out.2.more _ h1 h2 (by have q := R.out.2.eq; simp only [if_true]; rw [if_neg (by simp), DK.out] at q; rw [DK.out, List.append_nil]; exact q))
        clear h1 h2
        have E : Hid (o ++ [A] = plc A l) := Lib.hid (by have q := PE.out.eq; simp only [if_true] at q; rw [DK.out, List.append_nil] at q; exact q)
        go_wp2_with fail
        go_ret
        exact ⟨a2, _, c2, rfl, by rw [← E.out]; exact PE.out.own.mono (Nat.le_succ _), PE.out.be⟩
end Go.Proofs.YtmkdmfjdhajiaaaGreatDoor
end S1

section S2
namespace Go.Proofs.YtmkdmfjdhajiaaaGreatDoor
open Go.RowKit Go.Lib
open Go.Sort (grow)
def nmA (l : List Am) (k : Nat) : List UInt8 := (l.getD k kAm.z).n.data.toList
theorem tot_step (l : List Am) (j : Nat) (h : j < l.length) (nm : List UInt8) : Tot (ent (l.take (j + 1))) nm = Tot (ent (l.take j)) nm + (if nmA l j = nm then (l.getD j kAm.z).v else 0) := by
  rw [take_onez l j kAm.z h, ent_app, Tot_app]
  congr 1
  show Tot [((l.getD j kAm.z).n.data.toList, (l.getD j kAm.z).v)] nm = _
  rw [Tot_one]; rfl
theorem tot_le (nm : List UInt8) : ∀ (es : List En), (∀ e ∈ es, e.2 ≤ 9223372036854775807) → Tot es nm ≤ es.length * 9223372036854775807 := by
  intro es
  induction es with
  | nil => intro _; simp [Tot]
  | cons e r ih =>
    intro h
    have h1 := h e (by simp)
    have h2 := ih (fun x hx => h x (by simp [hx]))
    have e1 : Tot (e :: r) nm = Tot [e] nm + Tot r nm := Tot_app [e] r nm
    rw [e1, Tot_one, List.length_cons]
    split <;> omega
theorem nmA_mem {l : List Am} {m : Nat} (h : m < l.length) : nmA l m ∈ (ent l).map Prod.fst := mem_ent.2 ⟨_, getD_in h, rfl⟩
theorem nmA_of {l : List Am} {n : List UInt8} (h : n ∈ (ent l).map Prod.fst) : ∃ m, m < l.length ∧ nmA l m = n := by
  obtain ⟨x, hx, e⟩ := mem_ent.1 h
  obtain ⟨k, hk, e2⟩ := List.getElem_of_mem hx
  exact ⟨k, hk, by unfold nmA; rw [List.getD_eq_getElem?_getD, List.getElem?_eq_getElem hk, e2]; exact e⟩
/-- What stands behind i amounts. -/
structure No (l : List Am) (i : Nat) (o : List Am) : Prop where
  str : Str o
  of : ∀ x ∈ o, x.v = Tot (ent l) x.n.data.toList ∧ ∃ m, m < i ∧ nmA l m = x.n.data.toList
  all : ∀ m, m < i → ∃ x ∈ o, x.n.data.toList = nmA l m
  len : o.length ≤ i
  fit : ∀ m, m < i → Tot (ent l) (nmA l m) ≤ 9223372036854775807
theorem No.start (l : List Am) : No l 0 [] := ⟨List.Pairwise.nil, fun _ hx => absurd hx List.not_mem_nil, fun _ hm => absurd hm (Nat.not_lt_zero _), Nat.le_refl _, fun _ hm => absurd hm (Nat.not_lt_zero _)⟩
theorem No.skip {l : List Am} {i : Nat} {o : List Am} (h : No l i o) (hs : ∃ m, m < i ∧ nmA l m = nmA l i) (hf : Tot (ent l) (nmA l i) ≤ 9223372036854775807) : No l (i + 1) o := by
  refine ⟨h.str, fun x hx => ?_, fun m hm => ?_, Nat.le_succ_of_le h.len, fun m hm => ?_⟩
  · obtain ⟨h1, m, hm, e⟩ := h.of x hx
    exact ⟨h1, m, by omega, e⟩
  · by_cases z : m = i
    · obtain ⟨m', hm', e⟩ := hs
      obtain ⟨x, hx, ex⟩ := h.all m' hm'
      exact ⟨x, hx, by rw [ex, e, z]⟩
    · exact h.all m (by omega)
  · by_cases z : m = i
    · rw [z]; exact hf
    · exact h.fit m (by omega)
theorem No.put {l : List Am} {i : Nat} {o : List Am} (h : No l i o) (hs : ¬ ∃ m, m < i ∧ nmA l m = nmA l i) (hf : Tot (ent l) (nmA l i) ≤ 9223372036854775807) (a : Am) (hn : a.n.data.toList = nmA l i) (hv : a.v = Tot (ent l) (nmA l i)) : No l (i + 1) (plc a o) := by
  refine ⟨plc_str h.str (fun x hx e => ?_), fun x hx => ?_, fun m hm => ?_, by rw [plc_len]; exact Nat.succ_le_succ h.len, fun m hm => ?_⟩
  · obtain ⟨_, m, hm, e2⟩ := h.of x hx
    exact hs ⟨m, hm, by rw [e2, e, hn]⟩
  · rcases (plc_mem a o x).1 hx with e | e
    · subst e
      exact ⟨by rw [hn]; exact hv, i, Nat.lt_succ_self _, hn.symm⟩
    · obtain ⟨h1, m, hm, e⟩ := h.of x e
      exact ⟨h1, m, by omega, e⟩
  · by_cases z : m = i
    · exact ⟨a, (plc_mem a o a).2 (Or.inl rfl), by rw [z]; exact hn⟩
    · obtain ⟨x, hx, e⟩ := h.all m (by omega)
      exact ⟨x, (plc_mem a o x).2 (Or.inr hx), e⟩
  · by_cases z : m = i
    · rw [z]; exact hf
    · exact h.fit m (by omega)
theorem No.done {l o : List Am} (h : No l l.length o) : o = outL (ent l) ∧ ¬ Ov (ent l) := by
  constructor
  · have e1 : outL (ent o) = outL (ent l) := by
      refine outL_congr (fun n => ?_) (fun n => ?_)
      · constructor
        · intro q
          obtain ⟨x, hx, e⟩ := mem_ent.1 q
          obtain ⟨_, m, hm, e2⟩ := h.of x hx
          rw [← e, ← e2]; exact nmA_mem hm
        · intro q
          obtain ⟨m, hm, e⟩ := nmA_of q
          obtain ⟨x, hx, e2⟩ := h.all m hm
          exact mem_ent.2 ⟨x, hx, by rw [e2, e]⟩
      · by_cases q : n ∈ (ent o).map Prod.fst
        · obtain ⟨x, hx, e⟩ := mem_ent.1 q
          rw [← e, Tot_mem h.str hx]; exact (h.of x hx).1
        · rw [Tot_none q, Tot_none]
          intro q2
          obtain ⟨m, hm, e⟩ := nmA_of q2
          obtain ⟨x, hx, e2⟩ := h.all m hm
          exact q (mem_ent.2 ⟨x, hx, by rw [e2, e]⟩)
    rw [← e1, ← sms_out o h.str.ris, sms_self h.str]
  · rintro ⟨n, hn⟩
    by_cases q : n ∈ (ent l).map Prod.fst
    · obtain ⟨m, hm, e⟩ := nmA_of q
      have := h.fit m hm
      rw [e] at this
      unfold maxA at hn
      omega
    · rw [Tot_none q] at hn; unfold maxA at hn; omega
theorem nr_yes {l o : List Am} (ha : l.all amB = true) (h : No l l.length o) : nrE l = (if 16 < o.length then 23 else 0) ∧ nrL l = (if 16 < o.length then [] else o) := by
  obtain ⟨e, ho⟩ := h.done
  have el : (nmsOf (ent l)).length = o.length := by rw [e, out_len]
  constructor
  · unfold nrE; rw [if_neg (by rw [ha]; simp), if_neg ho, el]
  · unfold nrL; rw [if_neg (by rw [ha]; simp), if_neg ho, el, ← e]
theorem nr_over {l : List Am} (ha : l.all amB = true) {nm : List UInt8} (h : 9223372036854775807 < Tot (ent l) nm) : nrE l = 7 ∧ nrL l = [] := by
  have ho : Ov (ent l) := ⟨nm, h⟩
  constructor
  · unfold nrE; rw [if_neg (by rw [ha]; simp), if_pos ho]
  · unfold nrL; rw [if_neg (by rw [ha]; simp), if_pos ho]
theorem nr_bad {l : List Am} (ha : l.all amB = false) : nrE l = 31 ∧ nrL l = [] := by
  constructor
  · unfold nrE; rw [if_pos ha]
  · unfold nrL; rw [if_pos ha]
/-- The inner loop: a box with the sum so far, and whether the name was met ahead. -/
structure Sm (wr : World) (l : List Am) (i j : Nat) (sb : Bool) (W : World) (sa : Option Addr) (sn sc T : Nat) : Prop where
  box : W.heap[wr.heap.size]? = some (.cells #[.slice sa sn sc] 46 (0, 0))
  row : Row Lg.kI W (.slice sa sn sc) (Lg.dg T)
  tot : (T : Int) = Tot (ent (l.take j)) (nmA l i)
  seen : sb = true ↔ ∃ m, m < j ∧ m < i ∧ nmA l m = nmA l i
  be : Below wr.heap.size wr W
theorem lt_some {w : World} {g : Nat} {o : Obj} (h : w.heap[g]? = some o) : g < w.heap.size := by
  rcases Nat.lt_or_ge g w.heap.size with q | q
  · exact q
  · rw [Array.getElem?_eq_none q] at h; cases h
theorem Sm.below {wr W W' : World} {l : List Am} {i j : Nat} {sb : Bool} {sa : Option Addr} {sn sc T : Nat} (h : Sm wr l i j sb W sa sn sc T) (hb : Below W.heap.size W W') : Sm wr l i j sb W' sa sn sc T :=
  ⟨(hb.block _ (lt_some h.box)).trans h.box, h.row.below hb, h.tot, h.seen, h.be.trans (hb.mono h.be.size)⟩
theorem Sm.no {wr W : World} {l : List Am} {i j : Nat} {sb : Bool} {sa : Option Addr} {sn sc T : Nat} (h : Sm wr l i j sb W sa sn sc T) (hj : j < l.length) (hn : nmA l j ≠ nmA l i) : Sm wr l i (j + 1) sb W sa sn sc T :=
  ⟨h.box, h.row, by rw [tot_step l j hj, if_neg hn, Int.add_zero]; exact h.tot, h.seen.trans ⟨fun ⟨m, h1, h2, h3⟩ => ⟨m, by omega, h2, h3⟩, fun ⟨m, h1, h2, h3⟩ => ⟨m, by
    rcases Nat.lt_or_ge m j with q | q
    · exact q
    · exact absurd h3 (by rw [show m = j by omega]; exact hn), h2, h3⟩⟩, h.be⟩
theorem Sm.seen_yes {wr W : World} {l : List Am} {i j : Nat} {sb : Bool} {sa : Option Addr} {sn sc T : Nat} (h : Sm wr l i j sb W sa sn sc T) (hn : nmA l j = nmA l i) : (sb || decide (j < i)) = true ↔ ∃ m, m < j + 1 ∧ m < i ∧ nmA l m = nmA l i := by
  constructor
  · intro q
    rw [Bool.or_eq_true] at q
    rcases q with q | q
    · obtain ⟨m, h1, h2, h3⟩ := h.seen.1 q
      exact ⟨m, by omega, h2, h3⟩
    · exact ⟨j, by omega, of_decide_eq_true q, hn⟩
  · rintro ⟨m, h1, h2, h3⟩
    rw [Bool.or_eq_true]
    rcases Nat.lt_or_ge m j with q | q
    · exact Or.inl (h.seen.2 ⟨m, q, h2, h3⟩)
    · exact Or.inr (decide_eq_true (by omega))
end Go.Proofs.YtmkdmfjdhajiaaaGreatDoor
end S2

section S3
namespace Go.Proofs.YtmkdmfjdhajiaaaGreatDoor
open Go.RowKit Go.Lib
open Go.Sort (grow)
theorem row_nd {w : World} {a : Option Addr} {n c x : Nat} (h : Row Lg.kI w (.slice a n c) (Lg.dg x)) {k : Nat} (hx : x < 10 ^ k) : n ≤ k := by
  obtain ⟨_, _, e, _⟩ := h.len
  simp only [Value.slice.injEq] at e
  rw [e.2.1]; exact Lg.dg_len_lt hx
theorem all_of {l : List Am} (h : ∀ j, j < l.length → amB (l.getD j kAm.z) = true) : l.all amB = true := by
  rw [List.all_eq_true]
  intro x hx
  obtain ⟨k, hk, e⟩ := List.getElem_of_mem hx
  have := h k hk
  rw [List.getD_eq_getElem?_getD, List.getElem?_eq_getElem hk] at this
  rw [← e]; exact this
theorem not_all {l : List Am} {k : Nat} (hk : k < l.length) (h : amB (l.getD k kAm.z) = false) : l.all amB = false := by
  rw [List.all_eq_false]
  exact ⟨_, getD_in hk, by rw [h]; exact Bool.false_ne_true⟩
theorem sum_lt {l : List Am} (hl : l.length ≤ 140737488355328) (hf : ∀ x ∈ l, x.v ≤ 9223372036854775807) (j T : Nat) (nm : List UInt8) (h : (T : Int) = Tot (ent (l.take j)) nm) : T < 10 ^ 40 := by
  have q := tot_le nm (ent (l.take j)) (fun e he => by
    obtain ⟨x, hx, rfl⟩ := List.mem_map.1 he
    exact hf x (List.mem_of_mem_take hx))
  have e : (ent (l.take j)).length ≤ l.length := by unfold ent; rw [List.length_map, List.length_take]; exact Nat.min_le_right _ _
  have e2 : T ≤ (ent (l.take j)).length * 9223372036854775807 := by omega
  have e3 : (ent (l.take j)).length * 9223372036854775807 ≤ 140737488355328 * 9223372036854775807 := Nat.mul_le_mul_right _ (Nat.le_trans e hl)
  exact Nat.lt_of_le_of_lt (Nat.le_trans e2 e3) (by decide)
set_option maxHeartbeats 16000000 in
set_option maxRecDepth 100000 in
theorem refNormal_any (v : Value) (l : List Am) (w : World) (hv : Row kAm w v l) (hz : (l.length + 1) * 24 ≤ 140737488355328) (hf : ∀ x ∈ l, x.v ≤ 9223372036854775807) (hs : ∀ x ∈ l, x.n.size ≤ 140737488355328) :
    Calls Tryz.prog 10 #[v] w fun e w' => ∃ a n c, e = .returned (.tuple #[.slice a n c, .int .i64 (nrE l)]) ∧ OwnR kAm w.heap.size w' (.slice a n c) (nrL l) ∧ Below w.heap.size w w' := by
  have V := Lib.hid hv
  obtain ⟨va, cap, rfl, hlc, hcm⟩ := hv.len
  unfold maxLen at hcm
  obtain ⟨n, hn⟩ : ∃ n, n = l.length := ⟨_, rfl⟩
  rw [← hn] at hlc V hz ⊢
  have HN := Lib.hid hn
  have HZ := Lib.hid hz
  have HF := Lib.hid hf
  have HS := Lib.hid hs
  have hn47 : n ≤ 140737488355328 := by omega
  obtain ⟨E, hE⟩ : ∃ E, E = nrE l := ⟨_, rfl⟩
  obtain ⟨Z, hZ⟩ : ∃ Z, Z = nrL l := ⟨_, rfl⟩
  rw [← hE, ← hZ]
  have EZ := Lib.hid (And.intro hE hZ)
  have CE : Hid (∀ k, k < n → ∀ W, Below w.heap.size w W → ∃ b off, va = some ⟨b, off, none⟩ ∧ W.cell? ⟨b, off + k * 2, none⟩ = some (.string (l.getD k kAm.z).n) ∧ W.cell? ⟨b, off + k * 2 + 1, none⟩ = some (.int .i64 (l.getD k kAm.z).v)) := Lib.hid fun k hk W h => by
    obtain ⟨b, off, e, pc⟩ := (V.out.below h).at k (by rw [← HN.out]; exact hk)
    exact ⟨b, off, e, pc 0 _ rfl, pc 1 _ rfl⟩
  clear hv hn hz hf hs hE hZ
  go_enter Tryz.func10, Tryz.ntmps10
  go_wp2_with fail
  go_loopg [5] n (fun g si wr => ∃ (k : Nat), g = n - k ∧ k ≤ n ∧ si = .int .i64 k ∧ (∀ j, j < k → amB (l.getD j kAm.z) = true) ∧ Below w.heap.size w wr)
  case atStart => exact ⟨0, rfl, Nat.zero_le _, rfl, fun j hj => absurd hj (Nat.not_lt_zero _), Below.refl _ _⟩
  case round =>
    obtain ⟨k, hg, hk, rfl, hok, hb⟩ := hrel
    have R : Hid (gk = n - k ∧ (∀ j, j < k → amB (l.getD j kAm.z) = true) ∧ Below w.heap.size w wr) := Lib.hid ⟨hg, hok, hb⟩
    clear hg hok hb
    by_cases hlt : k < n
    · have hlt' : (k : Int) < (n : Int) := by omega
      have hl2 : k < l.length := by rw [← HN.out]; exact hlt
      obtain ⟨b, off, rfl, c0, c1⟩ := CE.out k hlt wr R.out.2.2
      have XF := Lib.hid (HS.out _ (getD_in (d := kAm.z) hl2))
      obtain ⟨x, hx⟩ : ∃ x, x = l.getD k kAm.z := ⟨_, rfl⟩
      rw [← hx] at c0 c1 XF
      have XX := Lib.hid hx
      have HL2 := Lib.hid hl2
      obtain ⟨xn, xv⟩ := x
      simp only at c0 c1
      obtain ⟨rs, hrs⟩ : ∃ rs, rs = resB xn := ⟨_, rfl⟩
      have RC : Hid (∀ W, Calls Tryz.prog 21 #[.string xn] W fun e w' => e = .returned (.bool rs) ∧ w' = W) := Lib.hid fun W => by rw [hrs]; exact refRes_any xn W XF.out
      have RS := Lib.hid hrs
      clear hrs hx hl2
      cases rs with
      | false =>
        have NO := Lib.hid (nr_bad (not_all HL2.out (by rw [← XX.out]; unfold amB; simp only; rw [← RS.out]; simp)))
        go_wp2_with (first | (go_at_call 21; refine (RC.out _).mono ?_; rintro e w5 ⟨rfl, rfl⟩))
        go_ret2
        exact ⟨none, 0, 0, by rw [EZ.out.1, NO.out.1]; rfl, by rw [EZ.out.2, NO.out.2]; exact OwnR.nil _ _ _, R.out.2.2⟩
      | true =>
        by_cases zv : 0 ≤ xv
        · have gv : decide (xv < 0) = false := decide_eq_false (by omega)
          have AM : Hid (amB ⟨xn, xv⟩ = true) := Lib.hid (by unfold amB; simp only; rw [← RS.out, decide_eq_true zv]; rfl)
          clear zv
          go_wp2_with (first | (go_at_call 21; refine (RC.out _).mono ?_; rintro e w5 ⟨rfl, rfl⟩))
          go_roundg (n - (k + 1))
          case measure => have := R.out.1; omega
          case rel => exact ⟨k + 1, rfl, by omega, by go_num, fun j hj => by
            by_cases z : j = k
            · rw [z, ← XX.out]; exact AM.out
            · exact R.out.2.1 j (by omega), R.out.2.2⟩
        · have gv : decide (xv < 0) = true := decide_eq_true (by omega)
          have NO := Lib.hid (nr_bad (not_all HL2.out (by rw [← XX.out]; unfold amB; simp only; rw [decide_eq_false zv]; simp)))
          clear zv
          go_wp2_with (first | (go_at_call 21; refine (RC.out _).mono ?_; rintro e w5 ⟨rfl, rfl⟩))
          go_ret2
          exact ⟨none, 0, 0, by rw [EZ.out.1, NO.out.1]; rfl, by rw [EZ.out.2, NO.out.2]; exact OwnR.nil _ _ _, R.out.2.2⟩
    · have hge : decide ((k : Int) < (n : Int)) = false := decide_eq_false (by omega)
      have ALL : Hid (l.all amB = true) := Lib.hid (all_of (fun j hj => R.out.2.1 j (by rw [← HN.out] at hj; omega)))
      have POS := Lib.hid (am_pos ALL.out)
      have B0 := Lib.hid R.out.2.2
      obtain ⟨w2, hw2⟩ : ∃ W, W = wr := ⟨_, rfl⟩
      rw [← hw2] at B0 ⊢
      clear R hw2
      go_wp2_with fail
      clear hge hlt hk
      go_loopg [4, 6] n (fun g so si wr => ∃ (i : Nat) (oa : Option Addr) (on oc : Nat) (o : List Am), g = n - i ∧ i ≤ n ∧ si = .int .i64 i ∧ so = .slice oa on oc ∧ No l i o ∧ OwnR kAm w.heap.size wr (.slice oa on oc) o ∧ Below w.heap.size w wr)
      case atStart => exact ⟨0, none, 0, 0, [], rfl, Nat.zero_le _, rfl, rfl, No.start l, OwnR.nil _ _ _, B0.out⟩
      case round =>
        clear B0
        obtain ⟨i, oa, on, oc, o, hg, hi, rfl, rfl, hno, ho, hb⟩ := hrel
        have Q : Hid (gk = n - i ∧ No l i o ∧ OwnR kAm w.heap.size wr (.slice oa on oc) o ∧ Below w.heap.size w wr) := Lib.hid ⟨hg, hno, ho, hb⟩
        have ON : Hid (on = o.length) := Lib.hid (by obtain ⟨_, _, e⟩ := ho.slice; simp only [Value.slice.injEq] at e; exact e.2.1)
        clear hg hno ho hb
        obtain ⟨w3, hw3⟩ : ∃ W, W = wr := ⟨_, rfl⟩
        rw [← hw3] at Q ⊢
        clear hw3
        by_cases hlt : i < n
        · have hlt' : (i : Int) < (n : Int) := by omega
          have hl2 : i < l.length := by rw [← HN.out]; exact hlt
          obtain ⟨x, hx⟩ : ∃ x, x = l.getD i kAm.z := ⟨_, rfl⟩
          have XX := Lib.hid hx
          have HL2 := Lib.hid hl2
          obtain ⟨xn, xv⟩ := x
          have NM : Hid (nmA l i = xn.data.toList) := Lib.hid (by unfold nmA; rw [← hx])
          clear hx hl2
          obtain ⟨W1, hW1⟩ : ∃ W, W = w3.alloc (.cells #[.slice none 0 0] 46) := ⟨_, rfl⟩
          have S0 : Hid (Sm w3 l i 0 false W1 none 0 0 0) := Lib.hid ⟨by rw [hW1, heap_alloc_new], by rw [Lg.dg_zero]; exact (OwnR.nil Lg.kI 0 W1).row Lg.okI, by simp [ent, Tot], by simp, by rw [hW1]; exact (Below.refl _ w3).alloc (Nat.le_refl _) _⟩
          have HW1 := Lib.hid hW1
          clear hW1
          go_wp2_with fail
          rw [← HW1.out]
          clear HW1
          go_loopg [8, 9] n (fun g ss sj wy => ∃ (j : Nat) (sb : Bool) (sa : Option Addr) (sn sc T : Nat), g = n - j ∧ j ≤ n ∧ sj = .int .i64 j ∧ ss = .bool sb ∧ Sm w3 l i j sb wy sa sn sc T)
          case atStart => exact ⟨0, false, none, 0, 0, 0, rfl, Nat.zero_le _, rfl, rfl, S0.out⟩
          case round =>
            clear S0
            obtain ⟨j, sb, sa, sn, sc, T, hg, hj, rfl, rfl, hsm⟩ := hrel
            have P : Hid (gk = n - j ∧ Sm w3 l i j sb wr sa sn sc T) := Lib.hid ⟨hg, hsm⟩
            have BW : Hid (Below w.heap.size w wr) := Lib.hid (Q.out.2.2.2.trans (hsm.be.mono Q.out.2.2.2.size))
            have TB : Hid (T < 10 ^ 40) := Lib.hid (sum_lt (by rw [← HN.out]; exact hn47) HF.out j T _ hsm.tot)
            have SN : Hid (sn ≤ 40) := Lib.hid (row_nd hsm.row TB.out)
            have u0 : wr.cell? ⟨w3.heap.size, 0, none⟩ = some (.slice sa sn sc) := Lg.cell1 hsm.box
            clear hg hsm
            by_cases hjn : j < n
            · have hjn' : (j : Int) < (n : Int) := by omega
              obtain ⟨b, off, rfl, c0, c1⟩ := CE.out j hjn wr BW.out
              obtain ⟨_, _, ea, d0, _⟩ := CE.out i hlt wr BW.out
              simp only [Option.some.injEq, Addr.mk.injEq, and_true] at ea
              obtain ⟨rfl, rfl⟩ := ea
              have JL : Hid (j < l.length) := Lib.hid (by rw [← HN.out]; exact hjn)
              have YF := Lib.hid (And.intro (HF.out _ (getD_in (d := kAm.z) JL.out)) (POS.out _ (getD_in (d := kAm.z) JL.out)))
              obtain ⟨y, hy⟩ : ∃ y, y = l.getD j kAm.z := ⟨_, rfl⟩
              rw [← hy] at c0 c1 YF
              rw [← XX.out] at d0
              have YY := Lib.hid hy
              obtain ⟨yn, yv⟩ := y
              simp only at c0 c1 d0
              have NJ : Hid (nmA l j = yn.data.toList) := Lib.hid (by unfold nmA; rw [← hy])
              have e0 : ∀ M, (wr.drewN M).cell? ⟨b, off + j * 2, none⟩ = some (.string yn) := fun M => c0
              have e1 : ∀ M, (wr.drewN M).cell? ⟨b, off + i * 2, none⟩ = some (.string xn) := fun M => d0
              clear hy
              by_cases hnm : yn.data.toList = xn.data.toList
              · have ge : (yn.toList == xn.toList) = true := by rw [ByteArray.toList_eq, ByteArray.toList_eq, beq_iff_eq]; exact hnm
                have EQ : Hid (nmA l j = nmA l i) := Lib.hid (by rw [NJ.out, NM.out]; exact hnm)
                obtain ⟨Y, hY⟩ : ∃ Y : Nat, yv = Y := ⟨yv.toNat, by have := YF.out.2; simp only at this; omega⟩
                subst hY
                have LY := Lib.hid (fun W => Lg.long_any Y W (by have := YF.out.1; simp only at this; omega))
                have YD : Hid (Y < 10 ^ 19) := Lib.hid (by have := YF.out.1; simp only at this; omega)
                clear hnm
                go_wp2_with fail
                go_quiet (fail)
                obtain ⟨wd, hwd⟩ : ∃ W, W = wr.drewN nq := ⟨_, rfl⟩
                have PD : Hid (Sm w3 l i j sb wd sa sn sc T) := Lib.hid (P.out.2.below (by rw [hwd]; exact bel_drewN wr nq))
                have f1 : wd.cell? ⟨b, off + j * 2 + 1, none⟩ = some (.int .i64 (Y : Int)) := by rw [hwd]; exact c1
                have f2 : wd.drew.cell? ⟨b, off + j * 2 + 1, none⟩ = some (.int .i64 (Y : Int)) := f1
                have k1 : wd.cell? ⟨w3.heap.size, 0, none⟩ = some (.slice sa sn sc) := Lg.cell1 PD.out.box
                have k2 : wd.drew.cell? ⟨w3.heap.size, 0, none⟩ = some (.slice sa sn sc) := k1
                have GP : Hid (w3.heap.size < wd.heap.size) := Lib.hid (lt_some PD.out.box)
                rw [← hwd]
                clear hwd e0 e1 c0 c1 d0 u0 ge
                go_wp2_with fail
                go_region_with (first | (go_at_call 28; refine (LY.out _).mono ?_; rintro e w7 ⟨a7, n7, c7, rfl, hr7, hb7⟩; have S7 : Hid (Below wd.heap.size wd w7 ∧ Row Lg.kI w7 (.slice a7 n7 c7) (Lg.dg Y) ∧ n7 ≤ 19) := Lib.hid ⟨(Below.refl wd.heap.size wd).drew.trans hb7, hr7, row_nd hr7 YD.out⟩; have k9 : w7.cell? ⟨w3.heap.size, 0, none⟩ = some (.slice sa sn sc) := Lg.cell1 ((S7.out.1.block _ GP.out).trans PD.out.box); clear hr7 hb7) | (go_at_call 27; refine (Lg.plus_any sa a7 sn n7 sc c7 T Y _ (PD.out.row.below S7.out.1) S7.out.2.1 (by have := SN.out; omega) (by have := S7.out.2.2; omega)).mono ?_; rintro e w8 ⟨a8, n8, c8, rfl, hr8, hb8⟩; have S8 : Hid (Below wd.heap.size wd w8 ∧ Row Lg.kI w8 (.slice a8 n8 c8) (Lg.dg (T + Y))) := Lib.hid ⟨S7.out.1.trans (hb8.mono S7.out.1.size), hr8⟩; have H8 : Hid (w8.heap[w3.heap.size]? = some (.cells #[.slice sa sn sc] 46 (0, 0))) := Lib.hid ((S8.out.1.block _ GP.out).trans PD.out.box); have t8 := Lg.cell1 H8.out; have f8 := Lg.frz H8.out 0; clear hr8 hb8))
                all_goals
                  obtain ⟨W8, hW8⟩ : ∃ W, W = w8.setCell ⟨w3.heap.size, 0, none⟩ (.slice a8 n8 c8) := ⟨_, rfl⟩
                  have NX : Hid (∀ sb', (sb' = true ↔ (sb || decide (j < i)) = true) → Sm w3 l i (j + 1) sb' W8 a8 n8 c8 (T + Y)) := Lib.hid fun sb' hsb => by
                    rw [hW8]
                    refine ⟨Lg.set1 H8.out _, Lg.row_set H8.out S8.out.2 _, ?_, hsb.trans (PD.out.seen_yes EQ.out), (PD.out.be.trans (S8.out.1.mono PD.out.be.size)).setCell (p := ⟨w3.heap.size, 0, none⟩) (Nat.le_refl _) _⟩
                    rw [tot_step l j JL.out, if_pos EQ.out, ← YY.out, ← PD.out.tot]; simp
                  rw [← hW8]
                  clear hW8 t8 f8
                  cases sb with
                  | true =>
                    go_wp2_with fail
                    go_roundg (n - (j + 1))
                    case measure => have := P.out.1; omega
                    case rel => exact ⟨j + 1, true, a8, n8, c8, T + Y, rfl, by omega, by go_num, rfl, NX.out true (by simp)⟩
                  | false =>
                    by_cases hji : j < i
                    · have gj : decide ((j : Int) < (i : Int)) = true := decide_eq_true (by omega)
                      go_wp2_with fail
                      go_roundg (n - (j + 1))
                      case measure => have := P.out.1; omega
                      case rel => exact ⟨j + 1, true, a8, n8, c8, T + Y, rfl, by omega, by go_num, rfl, NX.out true (by simp [hji])⟩
                    · have gj : decide ((j : Int) < (i : Int)) = false := decide_eq_false (by omega)
                      go_wp2_with fail
                      go_roundg (n - (j + 1))
                      case measure => have := P.out.1; omega
                      case rel => exact ⟨j + 1, false, a8, n8, c8, T + Y, rfl, by omega, by go_num, rfl, NX.out false (by simp [hji])⟩
              · have ge : (yn.toList == xn.toList) = false := by rw [ByteArray.toList_eq, ByteArray.toList_eq, beq_eq_false_iff_ne]; exact hnm
                have NE : Hid (nmA l j ≠ nmA l i) := Lib.hid (by rw [NJ.out, NM.out]; exact hnm)
                clear hnm
                go_wp2_with fail
                go_quiet (fail)
                have PD : Hid (Sm w3 l i (j + 1) sb (wr.drewN nq) sa sn sc T) := Lib.hid ((P.out.2.no JL.out NE.out).below (bel_drewN wr nq))
                clear e0 e1 c0 c1 d0 u0 ge
                go_wp2_with fail
                go_roundg (n - (j + 1))
                case measure => have := P.out.1; omega
                case rel => exact ⟨j + 1, sb, sa, sn, sc, T, rfl, by omega, by go_num, rfl, PD.out⟩
            · have hjn2 : j = n := by omega
              have hge : decide ((j : Int) < (n : Int)) = false := decide_eq_false (by omega)
              have TT : Hid ((T : Int) = Tot (ent l) (nmA l i)) := Lib.hid (by have q := P.out.2.tot; rw [hjn2, HN.out, List.take_length] at q; exact q)
              have SE : Hid (sb = true ↔ ∃ m, m < i ∧ nmA l m = nmA l i) := Lib.hid (P.out.2.seen.trans ⟨fun ⟨m, _, h2, h3⟩ => ⟨m, h2, h3⟩, fun ⟨m, h2, h3⟩ => ⟨m, by omega, h2, h3⟩⟩)
              clear hjn2
              by_cases hT : T ≤ 9223372036854775807
              · have VY := Lib.hid (Lg.value_yes sa sn sc T wr P.out.2.row (by have := SN.out; omega) hT)
                have FT : Hid (Tot (ent l) (nmA l i) ≤ 9223372036854775807) := Lib.hid (by rw [← TT.out]; omega)
                clear hT
                cases sb with
                | true =>
                  have NK := Lib.hid (Q.out.2.1.skip (SE.out.1 rfl) FT.out)
                  go_wp2_with (first | (go_at_call 29; refine VY.out.mono ?_; rintro e w9 ⟨rfl, hb9⟩; have B9 : Hid (Below w3.heap.size w3 w9) := Lib.hid (P.out.2.be.trans (hb9.mono P.out.2.be.size)); clear hb9))
                  go_roundg (n - (i + 1))
                  case measure => have := Q.out.1; omega
                  case rel => exact ⟨i + 1, oa, on, oc, o, rfl, by omega, by go_num, rfl, NK.out, Q.out.2.2.1.below B9.out, Q.out.2.2.2.trans (B9.out.mono Q.out.2.2.2.size)⟩
                | false =>
                  have NK := Lib.hid (Q.out.2.1.put (fun q => absurd (SE.out.2 q) (by simp)) FT.out (⟨xn, (T : Int)⟩ : Am) NM.out.symm TT.out)
                  have PA : Hid (∀ W, Below w3.heap.size w3 W → Calls Tryz.prog 30 #[.slice oa on oc, .agg #[.string xn, .int .i64 (T : Int)]] W fun e w' => ∃ a2 n2 c2, e = .returned (.slice a2 n2 c2) ∧ OwnR kAm W.heap.size w' (.slice a2 n2 c2) (plc (⟨xn, (T : Int)⟩ : Am) o) ∧ Below W.heap.size W w') := Lib.hid fun W h => placed_any (.slice oa on oc) o (⟨xn, (T : Int)⟩ : Am) W ((Q.out.2.2.1.below h).row okAm) (by have := Q.out.2.1.len; have := HZ.out; omega)
                  have CI : Hid (∀ W, Below w3.heap.size w3 W → ∃ b off, va = some ⟨b, off, none⟩ ∧ W.cell? ⟨b, off + i * 2, none⟩ = some (.string xn)) := Lib.hid fun W h => by
                    obtain ⟨b, off, e, h0, _⟩ := CE.out i hlt W (Q.out.2.2.2.trans (h.mono Q.out.2.2.2.size))
                    rw [← XX.out] at h0
                    exact ⟨b, off, e, h0⟩
                  go_wp2_with (first | (go_at_call 29; refine VY.out.mono ?_; rintro e w9 ⟨rfl, hb9⟩; have B9 : Hid (Below w3.heap.size w3 w9) := Lib.hid (P.out.2.be.trans (hb9.mono P.out.2.be.size)); obtain ⟨b, off, rfl, q0⟩ := CI.out w9 B9.out; clear hb9) | (go_at_call 30; refine (PA.out w9 B9.out).mono ?_; rintro e w10 ⟨a2, n2, c2, rfl, ho2, hb10⟩; have Z9 : Hid (OwnR kAm w.heap.size w10 (.slice a2 n2 c2) (plc (⟨xn, (T : Int)⟩ : Am) o) ∧ Below w.heap.size w w10) := Lib.hid ⟨ho2.mono (Nat.le_trans Q.out.2.2.2.size B9.out.size), Q.out.2.2.2.trans ((B9.out.trans (hb10.mono B9.out.size)).mono Q.out.2.2.2.size)⟩; clear ho2 hb10))
                  go_roundg (n - (i + 1))
                  case measure => have := Q.out.1; omega
                  case rel => exact ⟨i + 1, a2, n2, c2, _, rfl, by omega, by go_num, rfl, NK.out, Z9.out.1, Z9.out.2⟩
              · have VN := Lib.hid (Lg.value_no sa sn sc T wr P.out.2.row (by omega))
                have NO := Lib.hid (nr_over ALL.out (nm := nmA l i) (by rw [← TT.out]; omega))
                clear hT
                go_wp2_with (first | (go_at_call 29; refine VN.out.mono ?_; rintro e w9 ⟨rfl, hb9⟩; have B9 : Hid (Below w3.heap.size w3 w9) := Lib.hid (P.out.2.be.trans (hb9.mono P.out.2.be.size)); clear hb9))
                go_ret2
                exact ⟨none, 0, 0, by rw [EZ.out.1, NO.out.1]; rfl, by rw [EZ.out.2, NO.out.2]; exact OwnR.nil _ _ _, Q.out.2.2.2.trans (B9.out.mono Q.out.2.2.2.size)⟩
        · have hin : i = n := by omega
          have hge : decide ((i : Int) < (n : Int)) = false := decide_eq_false (by omega)
          have NR := Lib.hid (nr_yes ALL.out (o := o) (by have q := Q.out.2.1; rw [hin, HN.out] at q; exact q))
          clear hin
          by_cases h16 : 16 < on
          · have g16 : decide ((on : Int) > 16) = true := decide_eq_true (by omega)
            have G := Lib.hid h16
            clear h16
            go_wp2_with fail
            go_ret2
            exact ⟨none, 0, 0, by rw [EZ.out.1, NR.out.1, ← ON.out, if_pos G.out]; rfl, by rw [EZ.out.2, NR.out.2, ← ON.out, if_pos G.out]; exact OwnR.nil _ _ _, Q.out.2.2.2⟩
          · have g16 : decide ((on : Int) > 16) = false := decide_eq_false (by omega)
            have G := Lib.hid h16
            clear h16
            go_wp2_with fail
            go_ret2
            exact ⟨oa, on, oc, by rw [EZ.out.1, NR.out.1, ← ON.out, if_neg G.out]; rfl, by rw [EZ.out.2, NR.out.2, ← ON.out, if_neg G.out]; exact Q.out.2.2.1, Q.out.2.2.2⟩
end Go.Proofs.YtmkdmfjdhajiaaaGreatDoor
end S3

section S4
namespace Go.Proofs.YtmkdmfjdhajiaaaGreatDoor
open Go.RowKit Go.Lib
open Go.Sort (grow)
set_option maxHeartbeats 8000000 in
set_option maxRecDepth 100000 in
theorem refPlus_bad (v u : Value) (l t : List Am) (w : World) (hv : Row kAm w v l) (hu : Row kAm w u t) (hs : ∀ x ∈ l, x.n.size ≤ 140737488355328) (hs' : ∀ x ∈ t, x.n.size ≤ 140737488355328) (hb : bothB l t = false) :
    Calls Tryz.prog 13 #[v, u] w fun e w' => e = .returned (.tuple #[.slice none 0 0, .int .i64 31]) ∧ Below w.heap.size w w' := by
  obtain ⟨C, hC⟩ : ∃ C, C = amsC l := ⟨_, rfl⟩
  obtain ⟨D, hD⟩ : ∃ D, D = amsC t := ⟨_, rfl⟩
  have VA : Hid (Calls Tryz.prog 7 #[v] w fun e w' => e = .returned (.int .i64 C) ∧ Below w.heap.size w w') := Lib.hid (by rw [hC]; exact refValid_any v l w hv hs)
  have VB : Hid (∀ W, Below w.heap.size w W → Calls Tryz.prog 7 #[u] W fun e w' => e = .returned (.int .i64 D) ∧ Below W.heap.size W w') := Lib.hid fun W h => by rw [hD]; exact refValid_any u t W (hu.below h) hs'
  have K : Hid (C = 0 → D ≠ 0) := Lib.hid fun h1 h2 => by
    unfold bothB at hb
    rw [← hC, ← hD, h1, h2] at hb
    simp at hb
  obtain ⟨va, vc, rfl, -, -⟩ := hv.len
  obtain ⟨ua, uc, rfl, -, -⟩ := hu.len
  obtain ⟨n, hn⟩ : ∃ n, n = l.length := ⟨_, rfl⟩
  obtain ⟨m, hm⟩ : ∃ n, n = t.length := ⟨_, rfl⟩
  rw [← hn] at VA ⊢
  rw [← hm] at VB ⊢
  clear hC hD hv hu hs hs' hb hn hm
  by_cases c0 : C = 0
  · have d0 := K.out c0
    subst c0
    have g1 : (D == 0) = false := by rw [beq_eq_false_iff_ne]; exact d0
    have g2 : (D != 0) = true := by rw [bne_iff_ne]; exact d0
    clear d0
    go_enter Tryz.func13, Tryz.ntmps13
    go_wp2_with fail
    refine VA.out.mono ?_
    rintro e w1 ⟨rfl, hb1⟩
    have B1 := Lib.hid hb1
    clear hb1
    go_wp2_with fail
    refine (VB.out w1 B1.out).mono ?_
    rintro e w2 ⟨rfl, hb2⟩
    have B2 := Lib.hid (B1.out.trans (hb2.mono B1.out.size))
    clear hb2
    go_wp2_with fail
    go_ret2
    exact ⟨rfl, B2.out⟩
  · have g1 : (C == 0) = false := by rw [beq_eq_false_iff_ne]; exact c0
    have g2 : (C != 0) = true := by rw [bne_iff_ne]; exact c0
    clear c0
    go_enter Tryz.func13, Tryz.ntmps13
    go_wp2_with fail
    refine VA.out.mono ?_
    rintro e w1 ⟨rfl, hb1⟩
    have B1 := Lib.hid hb1
    clear hb1
    go_wp2_with fail
    go_ret2
    exact ⟨rfl, B1.out⟩
set_option maxHeartbeats 8000000 in
set_option maxRecDepth 100000 in
theorem refWithin_bad (v u : Value) (l t : List Am) (w : World) (hv : Row kAm w v l) (hu : Row kAm w u t) (hs : ∀ x ∈ l, x.n.size ≤ 140737488355328) (hs' : ∀ x ∈ t, x.n.size ≤ 140737488355328) (hb : bothB l t = false) :
    Calls Tryz.prog 17 #[v, u] w fun e w' => e = .returned (.tuple #[.string ⟨#[]⟩, .int .i64 31]) ∧ Below w.heap.size w w' := by
  obtain ⟨C, hC⟩ : ∃ C, C = amsC l := ⟨_, rfl⟩
  obtain ⟨D, hD⟩ : ∃ D, D = amsC t := ⟨_, rfl⟩
  have VA : Hid (Calls Tryz.prog 7 #[v] w fun e w' => e = .returned (.int .i64 C) ∧ Below w.heap.size w w') := Lib.hid (by rw [hC]; exact refValid_any v l w hv hs)
  have VB : Hid (∀ W, Below w.heap.size w W → Calls Tryz.prog 7 #[u] W fun e w' => e = .returned (.int .i64 D) ∧ Below W.heap.size W w') := Lib.hid fun W h => by rw [hD]; exact refValid_any u t W (hu.below h) hs'
  have K : Hid (C = 0 → D ≠ 0) := Lib.hid fun h1 h2 => by
    unfold bothB at hb
    rw [← hC, ← hD, h1, h2] at hb
    simp at hb
  obtain ⟨va, vc, rfl, -, -⟩ := hv.len
  obtain ⟨ua, uc, rfl, -, -⟩ := hu.len
  obtain ⟨n, hn⟩ : ∃ n, n = l.length := ⟨_, rfl⟩
  obtain ⟨m, hm⟩ : ∃ n, n = t.length := ⟨_, rfl⟩
  rw [← hn] at VA ⊢
  rw [← hm] at VB ⊢
  clear hC hD hv hu hs hs' hb hn hm
  by_cases c0 : C = 0
  · have d0 := K.out c0
    subst c0
    have g1 : (D == 0) = false := by rw [beq_eq_false_iff_ne]; exact d0
    have g2 : (D != 0) = true := by rw [bne_iff_ne]; exact d0
    clear d0
    go_enter Tryz.func17, Tryz.ntmps17
    go_wp2_with fail
    refine VA.out.mono ?_
    rintro e w1 ⟨rfl, hb1⟩
    have B1 := Lib.hid hb1
    clear hb1
    go_wp2_with fail
    refine (VB.out w1 B1.out).mono ?_
    rintro e w2 ⟨rfl, hb2⟩
    have B2 := Lib.hid (B1.out.trans (hb2.mono B1.out.size))
    clear hb2
    go_wp2_with fail
    go_ret2
    exact ⟨rfl, B2.out⟩
  · have g1 : (C == 0) = false := by rw [beq_eq_false_iff_ne]; exact c0
    have g2 : (C != 0) = true := by rw [bne_iff_ne]; exact c0
    clear c0
    go_enter Tryz.func17, Tryz.ntmps17
    go_wp2_with fail
    refine VA.out.mono ?_
    rintro e w1 ⟨rfl, hb1⟩
    have B1 := Lib.hid hb1
    clear hb1
    go_wp2_with fail
    go_ret2
    exact ⟨rfl, B1.out⟩
set_option maxHeartbeats 8000000 in
set_option maxRecDepth 100000 in
theorem refPlus_good (v u : Value) (l t : List Am) (w : World) (hv : Row kAm w v l) (hu : Row kAm w u t) (hf : ∀ x ∈ l, x.v ≤ 9223372036854775807) (hf' : ∀ x ∈ t, x.v ≤ 9223372036854775807) (hs : ∀ x ∈ l, x.n.size ≤ 140737488355328) (hs' : ∀ x ∈ t, x.n.size ≤ 140737488355328) (hb : bothB l t = true) :
    Calls Tryz.prog 13 #[v, u] w fun e w' => ∃ a n c, e = .returned (.tuple #[.slice a n c, .int .i64 (nrE (l ++ t))]) ∧ OwnR kAm w.heap.size w' (.slice a n c) (nrL (l ++ t)) ∧ Below w.heap.size w w' := by
  have NA : Hid (∀ x W, Row kAm W x (l ++ t) → Calls Tryz.prog 10 #[x] W fun e w' => ∃ a n c, e = .returned (.tuple #[.slice a n c, .int .i64 (nrE (l ++ t))]) ∧ OwnR kAm W.heap.size w' (.slice a n c) (nrL (l ++ t)) ∧ Below W.heap.size W w') := Lib.hid fun x W hx => refNormal_any x (l ++ t) W hx (by
    have h1 := (ams_parts ((amsC_zero l).1 (both_of hb).1)).1
    have h2 := (ams_parts ((amsC_zero t).1 (both_of hb).2)).1
    rw [List.length_append]; omega) (fun y hy => (List.mem_append.1 hy).elim (hf y) (hf' y)) (fun y hy => (List.mem_append.1 hy).elim (hs y) (hs' y))
  obtain ⟨E, hE⟩ : ∃ E, E = nrE (l ++ t) := ⟨_, rfl⟩
  obtain ⟨Z, hZ⟩ : ∃ Z, Z = nrL (l ++ t) := ⟨_, rfl⟩
  rw [← hE, ← hZ] at NA ⊢
  clear hf hf' hE hZ
  have VA : Hid (Calls Tryz.prog 7 #[v] w fun e w' => e = .returned (.int .i64 0) ∧ Below w.heap.size w w') := Lib.hid (by have q := refValid_any v l w hv hs; rw [(both_of hb).1] at q; exact q)
  have VB : Hid (∀ W, Below w.heap.size w W → Calls Tryz.prog 7 #[u] W fun e w' => e = .returned (.int .i64 0) ∧ Below W.heap.size W w') := Lib.hid fun W h => by have q := refValid_any u t W (hu.below h) hs'; rw [(both_of hb).2] at q; exact q
  have V := Lib.hid hv
  have U := Lib.hid hu
  have HB := Lib.hid hb
  have HS := Lib.hid hs
  have HS' := Lib.hid hs'
  have L16 : Hid (l.length ≤ 16 ∧ t.length ≤ 16) := Lib.hid ⟨(ams_parts ((amsC_zero l).1 (both_of hb).1)).1, (ams_parts ((amsC_zero t).1 (both_of hb).2)).1⟩
  obtain ⟨va, vc, rfl, hvc, hvm⟩ := hv.len
  obtain ⟨ua, uc, rfl, huc, hum⟩ := hu.len
  unfold maxLen at hvm hum
  obtain ⟨n, hn⟩ : ∃ n, n = l.length := ⟨_, rfl⟩
  obtain ⟨m, hm⟩ : ∃ n, n = t.length := ⟨_, rfl⟩
  rw [← hn] at VA V L16 hvc ⊢
  rw [← hm] at VB U L16 huc ⊢
  have HN := Lib.hid hn
  have HM := Lib.hid hm
  have hn16 := L16.out.1
  have hm16 := L16.out.2
  clear hv hu hs hs' hb hn hm
  go_enter Tryz.func13, Tryz.ntmps13
  go_wp2_with fail
  refine VA.out.mono ?_
  rintro e w1 ⟨rfl, hb1⟩
  have B1 := Lib.hid hb1
  clear hb1
  go_wp2_with fail
  refine (VB.out w1 B1.out).mono ?_
  rintro e w2 ⟨rfl, hb2⟩
  have B2 := Lib.hid (B1.out.trans (hb2.mono B1.out.size))
  clear hb2 B1
  have L1 : Hid ((([] : List Am).length + l.length) * kAm.b ≤ 140737488355328) := Lib.hid (by
    rw [← HN.out, List.length_nil, Nat.zero_add]
    exact Nat.le_trans (Nat.mul_le_mul_right 24 hn16) (by decide))
  have L2 : Hid ((l.length + t.length) * kAm.b ≤ 140737488355328) := Lib.hid (by
    rw [← HN.out, ← HM.out]
    exact Nat.le_trans (Nat.mul_le_mul_right 24 (Nat.add_le_add hn16 hm16)) (by decide))
  have M1 : True := trivial
  go_wp2_with (first
    | (at_builtin; clear M1; refine app_rows okAm (B := w.heap.size) (w := w2) (v := .slice none 0 0) (u := .slice va n vc) (l := []) (m := l) rfl _ _ rfl rfl (OwnR.nil _ _ _) B2.out.size rfl (V.out.below B2.out) L1.out ?_; intro v3 w3 h1 k1; rw [List.nil_append] at h1; obtain ⟨a3, c3, ee⟩ := h1.slice; rw [← HN.out] at ee; subst ee; have O3 : Hid (OwnR kAm w.heap.size w3 (.slice a3 n c3) l ∧ Below w.heap.size w w3) := Lib.hid ⟨h1, B2.out.trans (grown_belowR k1 (OwnR.nil kAm w.heap.size w2) B2.out.size)⟩; clear h1 k1)
    | (at_builtin; refine app_rows okAm (B := w.heap.size) (w := w3) (v := .slice a3 n c3) (u := .slice ua m uc) (l := l) (m := t) rfl _ _ rfl rfl O3.out.1 O3.out.2.size rfl (U.out.below O3.out.2) L2.out ?_; intro v4 w4 h2 k2; obtain ⟨a4, c4, ee⟩ := h2.slice; obtain ⟨m4, hm4⟩ : ∃ m, m = (l ++ t).length := ⟨_, rfl⟩; rw [← hm4] at ee; subst ee; clear hm4; have O4 : Hid (OwnR kAm w.heap.size w4 (.slice a4 m4 c4) (l ++ t) ∧ Below w.heap.size w w4) := Lib.hid ⟨h2, O3.out.2.trans (grown_belowR k2 O3.out.1 O3.out.2.size)⟩; clear h2 k2)
    | (go_at_call 10; refine (NA.out _ w4 (O4.out.1.row okAm)).mono ?_; rintro e w5 ⟨a5, n5, c5, rfl, h5, hb5⟩; have O5 : Hid (OwnR kAm w.heap.size w5 (.slice a5 n5 c5) Z ∧ Below w.heap.size w w5) := Lib.hid ⟨h5.mono O4.out.2.size, O4.out.2.trans (hb5.mono O4.out.2.size)⟩; clear h5 hb5))
  go_ret2
  exact ⟨a5, n5, c5, rfl, O5.out.1, O5.out.2⟩
theorem refPlus_any (v u : Value) (l t : List Am) (w : World) (hv : Row kAm w v l) (hu : Row kAm w u t) (hf : ∀ x ∈ l, x.v ≤ 9223372036854775807) (hf' : ∀ x ∈ t, x.v ≤ 9223372036854775807) (hs : ∀ x ∈ l, x.n.size ≤ 140737488355328) (hs' : ∀ x ∈ t, x.n.size ≤ 140737488355328) :
    Calls Tryz.prog 13 #[v, u] w fun e w' => ∃ a n c, e = .returned (.tuple #[.slice a n c, .int .i64 (plE l t)]) ∧ OwnR kAm w.heap.size w' (.slice a n c) (plL l t) ∧ Below w.heap.size w w' := by
  cases hb : bothB l t with
  | false =>
    obtain ⟨e1, e2⟩ := plus_no hb
    rw [e1, e2]
    exact (refPlus_bad v u l t w hv hu hs hs' hb).mono fun e w' ⟨h1, h2⟩ => ⟨none, 0, 0, h1, OwnR.nil _ _ _, h2⟩
  | true =>
    obtain ⟨e1, e2⟩ := plus_yes hb
    rw [e1, e2]
    exact refPlus_good v u l t w hv hu hf hf' hs hs' hb
set_option maxHeartbeats 8000000 in
set_option maxRecDepth 100000 in
theorem refWithin_good (v u : Value) (l t : List Am) (w : World) (hv : Row kAm w v l) (hu : Row kAm w u t) (hs : ∀ x ∈ l, x.n.size ≤ 140737488355328) (hs' : ∀ x ∈ t, x.n.size ≤ 140737488355328) (hb : bothB l t = true) :
    Calls Tryz.prog 17 #[v, u] w fun e w' => e = .returned (.tuple #[.string (wiT l t), .int .i64 0]) ∧ Below w.heap.size w w' := by
  obtain ⟨Z, hZ⟩ : ∃ Z, Z = wiT l t := ⟨_, rfl⟩
  rw [← hZ]
  have HZ := Lib.hid hZ
  clear hZ
  have VA : Hid (Calls Tryz.prog 7 #[v] w fun e w' => e = .returned (.int .i64 0) ∧ Below w.heap.size w w') := Lib.hid (by have q := refValid_any v l w hv hs; rw [(both_of hb).1] at q; exact q)
  have VB : Hid (∀ W, Below w.heap.size w W → Calls Tryz.prog 7 #[u] W fun e w' => e = .returned (.int .i64 0) ∧ Below W.heap.size W w') := Lib.hid fun W h => by have q := refValid_any u t W (hu.below h) hs'; rw [(both_of hb).2] at q; exact q
  have V := Lib.hid hv
  have U := Lib.hid hu
  have HB := Lib.hid hb
  have HS := Lib.hid hs
  have HS' := Lib.hid hs'
  have L16 : Hid (l.length ≤ 16 ∧ t.length ≤ 16) := Lib.hid ⟨(ams_parts ((amsC_zero l).1 (both_of hb).1)).1, (ams_parts ((amsC_zero t).1 (both_of hb).2)).1⟩
  obtain ⟨va, vc, rfl, hvc, hvm⟩ := hv.len
  obtain ⟨ua, uc, rfl, huc, hum⟩ := hu.len
  unfold maxLen at hvm hum
  obtain ⟨n, hn⟩ : ∃ n, n = l.length := ⟨_, rfl⟩
  obtain ⟨m, hm⟩ : ∃ n, n = t.length := ⟨_, rfl⟩
  rw [← hn] at VA V L16 hvc ⊢
  rw [← hm] at VB U L16 huc ⊢
  have HN := Lib.hid hn
  have HM := Lib.hid hm
  have hn16 := L16.out.1
  have hm16 := L16.out.2
  clear hv hu hs hs' hb hn hm
  go_enter Tryz.func17, Tryz.ntmps17
  go_wp2_with fail
  refine VA.out.mono ?_
  rintro e w1 ⟨rfl, hb1⟩
  have B1 := Lib.hid hb1
  clear hb1
  go_wp2_with fail
  refine (VB.out w1 B1.out).mono ?_
  rintro e w2 ⟨rfl, hb2⟩
  have B2 := Lib.hid (B1.out.trans (hb2.mono B1.out.size))
  clear hb2 B1
  go_wp2_with fail
  go_loopg [6] m (fun g si wr => ∃ (k : Nat), g = m - k ∧ k ≤ m ∧ si = .int .i64 k ∧ (∀ j, j < k → overB l (t.getD j kAm.z) = false) ∧ Below w.heap.size w wr)
  case atStart => exact ⟨0, rfl, Nat.zero_le _, rfl, fun j hj => absurd hj (Nat.not_lt_zero _), B2.out⟩
  case round =>
    clear B2
    obtain ⟨k, hg, hk, rfl, hok, hb⟩ := hrel
    have R : Hid (gk = m - k ∧ (∀ j, j < k → overB l (t.getD j kAm.z) = false) ∧ Below w.heap.size w wr) := Lib.hid ⟨hg, hok, hb⟩
    clear hg hok hb
    by_cases hlt : k < m
    · have hlt' : (k : Int) < (m : Int) := by omega
      have HL2 : Hid (k < t.length) := Lib.hid (by rw [← HM.out]; exact hlt)
      obtain ⟨b, off, rfl, pc⟩ := (U.out.below R.out.2.2).at k HL2.out
      obtain ⟨x, hx⟩ : ∃ x, x = t.getD k kAm.z := ⟨_, rfl⟩
      rw [← hx] at pc
      have XX := Lib.hid hx
      obtain ⟨xn, xv⟩ := x
      have c0 : wr.cell? ⟨b, off + k * 2, none⟩ = some (.string xn) := pc 0 _ rfl
      have c1 : wr.cell? ⟨b, off + k * 2 + 1, none⟩ = some (.int .i64 xv) := pc 1 _ rfl
      obtain ⟨F, hF⟩ : ∃ F, F = (findA xn (toA l)).1 := ⟨_, rfl⟩
      obtain ⟨G, hG⟩ : ∃ G, G = (findA xn (toA l)).2 := ⟨_, rfl⟩
      have OF : Hid (Calls Tryz.prog 35 #[.slice va n vc, .string xn] wr fun e w' => e = .returned (.tuple #[.int .i64 F, .bool G]) ∧ Below wr.heap.size wr w') := Lib.hid (by rw [hF, hG]; exact refOf_any _ (toA l) xn wr (amts_row (V.out.below R.out.2.2)))
      have FO : Hid (overB l (t.getD k kAm.z) = decide (F > xv)) := Lib.hid (by rw [← hx, hF]; rfl)
      clear hF hG hx pc
      by_cases hov : xv < F
      · have g1 : decide (xv < F) = true := decide_eq_true hov
        have EW : Hid (Z = xn) := Lib.hid (by rw [HZ.out, wi_at HL2.out R.out.2.1 (by rw [FO.out]; exact decide_eq_true hov), ← XX.out])
        clear hov
        go_wp2_with (first | (go_at_call 35; refine OF.out.mono ?_; rintro e w5 ⟨rfl, hb5⟩; have d0 : w5.cell? ⟨b, off + k * 2, none⟩ = some (.string xn) := (hb5.cell (block_lt_of_cell c0)).trans c0; have d1 : w5.cell? ⟨b, off + k * 2 + 1, none⟩ = some (.int .i64 xv) := (hb5.cell (block_lt_of_cell c1)).trans c1; have B5 := Lib.hid (R.out.2.2.trans (hb5.mono R.out.2.2.size)); clear hb5))
        go_ret2
        exact ⟨by rw [EW.out]; rfl, B5.out⟩
      · have g1 : decide (xv < F) = false := decide_eq_false hov
        have NX : Hid (overB l (t.getD k kAm.z) = false) := Lib.hid (by rw [FO.out]; exact decide_eq_false hov)
        clear hov
        go_wp2_with (first | (go_at_call 35; refine OF.out.mono ?_; rintro e w5 ⟨rfl, hb5⟩; have d0 : w5.cell? ⟨b, off + k * 2, none⟩ = some (.string xn) := (hb5.cell (block_lt_of_cell c0)).trans c0; have d1 : w5.cell? ⟨b, off + k * 2 + 1, none⟩ = some (.int .i64 xv) := (hb5.cell (block_lt_of_cell c1)).trans c1; have B5 := Lib.hid (R.out.2.2.trans (hb5.mono R.out.2.2.size)); clear hb5))
        go_roundg (m - (k + 1))
        case measure => have := R.out.1; omega
        case rel => exact ⟨k + 1, rfl, by omega, by go_num, fun j hj => by
          by_cases z : j = k
          · rw [z]; exact NX.out
          · exact R.out.2.1 j (by omega), B5.out⟩
    · have hge : decide ((k : Int) < (m : Int)) = false := decide_eq_false (by omega)
      have EW : Hid (Z = ⟨#[]⟩) := Lib.hid (by rw [HZ.out]; exact wi_none (fun j hj => R.out.2.1 j (by rw [← HM.out] at hj; omega)))
      go_wp2_with fail
      go_ret2
      exact ⟨by rw [EW.out]; rfl, R.out.2.2⟩
end Go.Proofs.YtmkdmfjdhajiaaaGreatDoor
end S4

section S5
namespace Go.Proofs.YtmkdmfjdhajiaaaGreatDoor
open Go.RowKit Go.Lib
open Go.Sort (grow)
theorem step_oneA {α : Type} {K' : Kd α} (ok : K'.Ok) {ops : Array Oper} {o : Oper} {a : Act} {w : World} {K : Act → World → Prop} {Q : Exit → Act → World → Prop} {E : Prop} (hgd : o.guard = none) (so x : Operand)
    (ho : o.op = .call { callee := .builtin .append, args := #[so, x], argTypes := #[K'.s, K'.s] })
    {B : Nat} {v : Value} {L : List α} (hs : a.eval so = v) (hown : OwnR K' B w v L) (hB : B ≤ w.heap.size) (p : α) {cs : Array Value} (hcs : cs = (K'.c p).toArray) (hx : a.eval x = .slice (some ⟨w.heap.size, 0, none⟩) 1 1) (hl : (L.length + 1) * K'.b ≤ 140737488355328)
    (h : ∀ a' n' c' w', Hid (OwnR K' B w' (.slice a' n' c') (L ++ [p]) ∧ (w.alloc (.cells cs K'.t)).grownBy w' v.ownBlock) → K (a.put o.dst (.slice a' n' c')) w') :
    if Region.wanted o (yielded ops a.tmps) = true then Oper.wp Tryz.prog o a (w.alloc (.cells cs K'.t)) K Q else E := by
  subst hcs
  have hw : Region.wanted o (yielded ops a.tmps) = true := by simp [Region.wanted, hgd]
  rw [if_pos hw]
  obtain ⟨zv, hinf, hzc⟩ := ok.inf
  obtain ⟨i0, hi, hz0, hz1, hz2⟩ := info_parts hinf
  have hb := ok.by0
  obtain ⟨v', w', hr, h2, h3, _, h5⟩ := run_append_own_at (P := Tryz.prog) (w.alloc (.cells (K'.c p).toArray K'.t)) B K'.s o.type K'.t i0 zv K'.k K'.b ok.und hi hz0 hz1 hz2 hzc ok.pos v L.length (cellsR K' L) (World.ownsRow.alloc hown _) ⟨w.heap.size, 0, none⟩ 1 1 (K'.c p) (by rw [ok.len, Nat.one_mul]) (by
    intro j u hj
    rw [add_plain, Nat.zero_add, World.cell?_alloc_new, ← Array.getElem?_toList]; exact hj) (ok.one p) (by have := Nat.le_mul_of_pos_right (L.length + 1) hb.1; unfold maxLen; omega) hl (by simp; omega)
  unfold Oper.wp execOp
  simp only [ho, resolve, invoke, builtin, Sem.run_bind, Sem.run_pure, Result.andThen_ok, List.map_toArray, List.map_cons, List.map_nil, hs, hx, hr]
  have o2 : OwnR K' B w' v' (L ++ [p]) := by
    show w'.ownsRow _ _ _ _ _ _
    rw [cellsR_app, List.length_append, cellsR_single]; exact h2
  obtain ⟨a7, c7, e7⟩ := o2.slice
  subst e7
  exact h a7 _ c7 w' (Lib.hid ⟨o2, h3⟩)
theorem find_self {t : List Am} (h : Str t) {y : Am} (hy : y ∈ t) : (findA y.n (toA t)).1 = y.v := by rw [find_tot h, Tot_mem h hy]
theorem find_all_pos {t : List Am} (h : ∀ x ∈ t, 0 ≤ x.v) (n : ByteArray) : 0 ≤ (findA n (toA t)).1 := by
  by_cases q : (findA n (toA t)).2 = true
  · have key : ∀ L : List Am, (∀ x ∈ L, 0 ≤ x.v) → 0 ≤ (findA n (toA L)).1 := by
      intro L
      induction L with
      | nil => intro _; exact Int.le_refl _
      | cons y r ih =>
        intro hL
        show 0 ≤ (findA n ((y.n, y.v) :: toA r)).1
        unfold findA
        split
        · exact hL y (by simp)
        · exact ih (fun x hx => hL x (by simp [hx]))
    exact key t h
  · rw [find_no (fun z => q ((find_in t n).2 z))]; exact Int.le_refl _
/-- The second loop. -/
structure Mi (l t : List Am) (k : Nat) (o : List Am) : Prop where
  perm : o.Perm (l.map (subV t) ++ addN l (t.take k))
  str : Str o
  low : ∀ j, j < k → (findA (t.getD j kAm.z).n (toA l)).2 = false → (t.getD j kAm.z).v ≤ 0
theorem Mi.len {l t : List Am} {k : Nat} {o : List Am} (h : Mi l t k o) : o.length ≤ l.length + k := by
  rw [h.perm.length_eq, List.length_append, List.length_map]
  have q := addN_len l (t.take k)
  rw [List.length_take] at q
  omega
theorem Mi.start {l t : List Am} (hl : Str l) : Mi l t 0 (l.map (subV t)) := by
  refine ⟨by simp [addN], ?_, fun j hj => absurd hj (Nat.not_lt_zero _)⟩
  exact List.pairwise_map.2 (hl.imp (fun q => q))
theorem Mi.skip {l t : List Am} {k : Nat} {o : List Am} (h : Mi l t k o) (hk : k < t.length) (ht : (findA (t.getD k kAm.z).n (toA l)).2 = true) : Mi l t (k + 1) o := by
  refine ⟨?_, h.str, fun j hj hn => ?_⟩
  · rw [take_onez t k kAm.z hk, addN_app, addN_yes ht, List.append_nil]; exact h.perm
  · by_cases z : j = k
    · rw [z] at hn; rw [ht] at hn; cases hn
    · exact h.low j (by omega) hn
theorem Mi.put {l t : List Am} {k : Nat} {o : List Am} (h : Mi l t k o) (hk : k < t.length) (hS : Str t) (ht : (findA (t.getD k kAm.z).n (toA l)).2 = false) (hv : (t.getD k kAm.z).v ≤ 0) : Mi l t (k + 1) (plc (⟨(t.getD k kAm.z).n, 0⟩ : Am) o) := by
  refine ⟨?_, ?_, fun j hj hn => ?_⟩
  · rw [take_onez t k kAm.z hk, addN_app, addN_no ht, ← List.append_assoc]
    refine (plc_perm _ o).trans ?_
    refine (List.Perm.cons _ h.perm).trans ?_
    exact (List.perm_append_singleton _ _).symm
  · refine plc_str h.str (fun x hx e => ?_)
    have hx' := h.perm.mem_iff.1 hx
    rcases List.mem_append.1 hx' with q | q
    · obtain ⟨y, hy, rfl⟩ := List.mem_map.1 q
      have : (findA (t.getD k kAm.z).n (toA l)).2 = true := (find_in l _).2 ⟨y, hy, e⟩
      rw [ht] at this; cases this
    · unfold addN at q
      obtain ⟨y, hy, rfl⟩ := List.mem_map.1 q
      have hy2 := (List.mem_filter.1 hy).1
      obtain ⟨j, hj, e2⟩ := List.getElem_of_mem hy2
      rw [List.length_take] at hj
      rw [List.getElem_take] at e2
      have lt := List.pairwise_iff_getElem.1 hS j k (by omega) hk (by omega)
      rw [e2] at lt
      have e3 : t.getD k kAm.z = t[k] := by rw [List.getD_eq_getElem?_getD, List.getElem?_eq_getElem hk]; rfl
      simp only at e
      rw [e3] at e
      rw [e] at lt
      exact List.lt_irrefl _ lt
  · by_cases z : j = k
    · rw [z]; exact hv
    · exact h.low j (by omega) hn
theorem Mi.done {l t : List Am} {o : List Am} (h : Mi l t t.length o) (hb : bothB l t = true) (hfl : ∀ x ∈ l, x.v ≤ 9223372036854775807) (hok : ∀ x ∈ l, (findA x.n (toA t)).1 ≤ x.v) : mnE l t = (if 16 < o.length then 23 else 0) ∧ mnL l t = (if 16 < o.length then [] else o) := by
  have hA := (ams_parts ((amsC_zero l).1 (both_of hb).1))
  have hT := (ams_parts ((amsC_zero t).1 (both_of hb).2))
  have pos := am_pos hT.2.1
  have zero : ∀ y ∈ t, (findA y.n (toA l)).2 = false → (findA y.n (toA t)).1 = 0 := fun y hy hn => by
    obtain ⟨j, hj, e⟩ := List.getElem_of_mem hy
    have e2 : t.getD j kAm.z = y := by rw [List.getD_eq_getElem?_getD, List.getElem?_eq_getElem hj, e]; rfl
    have q := h.low j hj (by rw [e2]; exact hn)
    rw [e2] at q
    rw [find_self hT.2.2 hy]
    have := pos y hy
    omega
  have ad : ∀ z ∈ addN l t, subV t z = z ∧ (findA z.n (toA t)).1 = 0 ∧ z.v = 0 ∧ resB z.n = true := fun z hz => by
    unfold addN at hz
    obtain ⟨y, hy, rfl⟩ := List.mem_map.1 hz
    obtain ⟨h1, h2⟩ := List.mem_filter.1 hy
    have q := zero y h1 (by simpa using h2)
    refine ⟨?_, q, rfl, ?_⟩
    · unfold subV; simp only; rw [q]; rfl
    · have := List.all_eq_true.1 hT.2.1 y h1
      unfold amB at this
      simp only [Bool.and_eq_true] at this
      exact this.elim (fun a b => by first | exact a | exact b)
  have eS : mnS l t = l.map (subV t) ++ addN l t := by
    unfold mnS mnD
    rw [List.map_append]
    congr 1
    have : ∀ L : List Am, (∀ z ∈ L, subV t z = z) → L.map (subV t) = L := by
      intro L
      induction L with
      | nil => intro _; rfl
      | cons z r ih => intro q; rw [List.map_cons, q z (by simp), ih (fun y hy => q y (by simp [hy]))]
    exact this _ (fun z hz => (ad z hz).1)
  have pm : o.Perm (mnS l t) := by rw [eS]; have q := h.perm; rw [List.take_length] at q; exact q
  have mb : mnB l t = true := by
    unfold mnB mnD
    rw [List.all_eq_true]
    intro x hx
    rcases List.mem_append.1 hx with q | q
    · exact decide_eq_true (hok x q)
    · obtain ⟨_, h2, h3, _⟩ := ad x q
      rw [h2, h3]; rfl
  have va : ∀ x ∈ mnS l t, amB x = true ∧ x.v ≤ 9223372036854775807 := by
    intro x hx
    rw [eS] at hx
    rcases List.mem_append.1 hx with q | q
    · obtain ⟨y, hy, rfl⟩ := List.mem_map.1 q
      have h1 := List.all_eq_true.1 hA.2.1 y hy
      have h2 := hok y hy
      have h3 := hfl y hy
      have h4 := (find_all_pos pos y.n)
      refine ⟨?_, ?_⟩
      · unfold amB subV at *
        simp only [Bool.and_eq_true, decide_eq_true_eq] at h1 ⊢
        first
          | exact ⟨h1.1, by omega⟩
          | exact ⟨by omega, h1.2⟩
      · unfold subV; simp only; omega
    · obtain ⟨_, _, h3, h4⟩ := ad x q
      refine ⟨?_, by rw [h3]; decide⟩
      unfold amB
      rw [h3, h4]; rfl
  have al : (mnS l t).all amB = true := List.all_eq_true.2 (fun x hx => (va x hx).1)
  have no : ¬ Ov (ent o) := tot_self h.str (fun x hx => (va x (pm.mem_iff.1 hx)).2)
  have q := nr_of pm h.str.ris al no
  rw [sms_self h.str] at q
  unfold mnE mnL
  rw [if_pos hb, if_pos mb, if_pos hb, if_pos mb]
  exact q
theorem mn_one {l t : List Am} (hb : bothB l t = true) (h : mnB l t = false) : mnE l t = 1 ∧ mnL l t = [] := by
  unfold mnE mnL
  rw [if_pos hb, if_pos hb, h]
  exact ⟨rfl, rfl⟩
set_option maxHeartbeats 8000000 in
set_option maxRecDepth 100000 in
theorem refMinus_bad (v u : Value) (l t : List Am) (w : World) (hv : Row kAm w v l) (hu : Row kAm w u t) (hs : ∀ x ∈ l, x.n.size ≤ 140737488355328) (hs' : ∀ x ∈ t, x.n.size ≤ 140737488355328) (hb : bothB l t = false) :
    Calls Tryz.prog 15 #[v, u] w fun e w' => e = .returned (.tuple #[.slice none 0 0, .int .i64 31]) ∧ Below w.heap.size w w' := by
  obtain ⟨C, hC⟩ : ∃ C, C = amsC l := ⟨_, rfl⟩
  obtain ⟨D, hD⟩ : ∃ D, D = amsC t := ⟨_, rfl⟩
  have VA : Hid (Calls Tryz.prog 7 #[v] w fun e w' => e = .returned (.int .i64 C) ∧ Below w.heap.size w w') := Lib.hid (by rw [hC]; exact refValid_any v l w hv hs)
  have VB : Hid (∀ W, Below w.heap.size w W → Calls Tryz.prog 7 #[u] W fun e w' => e = .returned (.int .i64 D) ∧ Below W.heap.size W w') := Lib.hid fun W h => by rw [hD]; exact refValid_any u t W (hu.below h) hs'
  have K : Hid (C = 0 → D ≠ 0) := Lib.hid fun h1 h2 => by
    unfold bothB at hb
    rw [← hC, ← hD, h1, h2] at hb
    simp at hb
  obtain ⟨va, vc, rfl, -, -⟩ := hv.len
  obtain ⟨ua, uc, rfl, -, -⟩ := hu.len
  obtain ⟨n, hn⟩ : ∃ n, n = l.length := ⟨_, rfl⟩
  obtain ⟨m, hm⟩ : ∃ n, n = t.length := ⟨_, rfl⟩
  rw [← hn] at VA ⊢
  rw [← hm] at VB ⊢
  clear hC hD hv hu hs hs' hb hn hm
  by_cases c0 : C = 0
  · have d0 := K.out c0
    subst c0
    have g1 : (D == 0) = false := by rw [beq_eq_false_iff_ne]; exact d0
    have g2 : (D != 0) = true := by rw [bne_iff_ne]; exact d0
    clear d0
    go_enter Tryz.func15, Tryz.ntmps15
    go_wp2_with fail
    refine VA.out.mono ?_
    rintro e w1 ⟨rfl, hb1⟩
    have B1 := Lib.hid hb1
    clear hb1
    go_wp2_with fail
    refine (VB.out w1 B1.out).mono ?_
    rintro e w2 ⟨rfl, hb2⟩
    have B2 := Lib.hid (B1.out.trans (hb2.mono B1.out.size))
    clear hb2
    go_wp2_with fail
    go_ret2
    exact ⟨rfl, B2.out⟩
  · have g1 : (C == 0) = false := by rw [beq_eq_false_iff_ne]; exact c0
    have g2 : (C != 0) = true := by rw [bne_iff_ne]; exact c0
    clear c0
    go_enter Tryz.func15, Tryz.ntmps15
    go_wp2_with fail
    refine VA.out.mono ?_
    rintro e w1 ⟨rfl, hb1⟩
    have B1 := Lib.hid hb1
    clear hb1
    go_wp2_with fail
    go_ret2
    exact ⟨rfl, B1.out⟩
set_option maxHeartbeats 8000000 in
set_option maxRecDepth 100000 in
theorem refMinus_good (v u : Value) (l t : List Am) (w : World) (hv : Row kAm w v l) (hu : Row kAm w u t) (hf : ∀ x ∈ l, x.v ≤ 9223372036854775807) (hs : ∀ x ∈ l, x.n.size ≤ 140737488355328) (hs' : ∀ x ∈ t, x.n.size ≤ 140737488355328) (hb : bothB l t = true) :
    Calls Tryz.prog 15 #[v, u] w fun e w' => ∃ a n c, e = .returned (.tuple #[.slice a n c, .int .i64 (mnE l t)]) ∧ OwnR kAm w.heap.size w' (.slice a n c) (mnL l t) ∧ Below w.heap.size w w' := by
  obtain ⟨E, hE⟩ : ∃ E, E = mnE l t := ⟨_, rfl⟩
  obtain ⟨Z, hZ⟩ : ∃ Z, Z = mnL l t := ⟨_, rfl⟩
  rw [← hE, ← hZ]
  have EZ := Lib.hid (And.intro hE hZ)
  have HF := Lib.hid hf
  have PT := Lib.hid (ams_parts ((amsC_zero t).1 (both_of hb).2))
  have PL := Lib.hid (ams_parts ((amsC_zero l).1 (both_of hb).1))
  have ONE : Hid (mnB l t = false → E = 1 ∧ Z = []) := Lib.hid fun h => by obtain ⟨e1, e2⟩ := mn_one hb h; exact ⟨hE.trans e1, hZ.trans e2⟩
  clear hE hZ hf
  have VA : Hid (Calls Tryz.prog 7 #[v] w fun e w' => e = .returned (.int .i64 0) ∧ Below w.heap.size w w') := Lib.hid (by have q := refValid_any v l w hv hs; rw [(both_of hb).1] at q; exact q)
  have VB : Hid (∀ W, Below w.heap.size w W → Calls Tryz.prog 7 #[u] W fun e w' => e = .returned (.int .i64 0) ∧ Below W.heap.size W w') := Lib.hid fun W h => by have q := refValid_any u t W (hu.below h) hs'; rw [(both_of hb).2] at q; exact q
  have V := Lib.hid hv
  have U := Lib.hid hu
  have HB := Lib.hid hb
  have HS := Lib.hid hs
  have HS' := Lib.hid hs'
  have L16 : Hid (l.length ≤ 16 ∧ t.length ≤ 16) := Lib.hid ⟨(ams_parts ((amsC_zero l).1 (both_of hb).1)).1, (ams_parts ((amsC_zero t).1 (both_of hb).2)).1⟩
  obtain ⟨va, vc, rfl, hvc, hvm⟩ := hv.len
  obtain ⟨ua, uc, rfl, huc, hum⟩ := hu.len
  unfold maxLen at hvm hum
  obtain ⟨n, hn⟩ : ∃ n, n = l.length := ⟨_, rfl⟩
  obtain ⟨m, hm⟩ : ∃ n, n = t.length := ⟨_, rfl⟩
  rw [← hn] at VA V L16 hvc ⊢
  rw [← hm] at VB U L16 huc ⊢
  have HN := Lib.hid hn
  have HM := Lib.hid hm
  have hn16 := L16.out.1
  have hm16 := L16.out.2
  clear hv hu hs hs' hb hn hm
  go_enter Tryz.func15, Tryz.ntmps15
  go_wp2_with fail
  refine VA.out.mono ?_
  rintro e w1 ⟨rfl, hb1⟩
  have B1 := Lib.hid hb1
  clear hb1
  go_wp2_with fail
  refine (VB.out w1 B1.out).mono ?_
  rintro e w2 ⟨rfl, hb2⟩
  have B2 := Lib.hid (B1.out.trans (hb2.mono B1.out.size))
  clear hb2 B1
  go_wp2_with fail
  go_loopg [6, 7] n (fun g so si wr => ∃ (k : Nat) (oa : Option Addr) (on oc : Nat), g = n - k ∧ k ≤ n ∧ si = .int .i64 k ∧ so = .slice oa on oc ∧ OwnR kAm w.heap.size wr (.slice oa on oc) ((l.take k).map (subV t)) ∧ (∀ j, j < k → (findA (l.getD j kAm.z).n (toA t)).1 ≤ (l.getD j kAm.z).v) ∧ Below w.heap.size w wr)
  case atStart => exact ⟨0, none, 0, 0, rfl, Nat.zero_le _, rfl, rfl, OwnR.nil _ _ _, fun j hj => absurd hj (Nat.not_lt_zero _), B2.out⟩
  case round =>
    clear B2
    obtain ⟨k, oa, on, oc, hg, hk, rfl, rfl, ho, hok, hb⟩ := hrel
    have R : Hid (gk = n - k ∧ OwnR kAm w.heap.size wr (.slice oa on oc) ((l.take k).map (subV t)) ∧ (∀ j, j < k → (findA (l.getD j kAm.z).n (toA t)).1 ≤ (l.getD j kAm.z).v) ∧ Below w.heap.size w wr) := Lib.hid ⟨hg, ho, hok, hb⟩
    clear hg ho hok hb
    by_cases hlt : k < n
    · have hlt' : (k : Int) < (n : Int) := by omega
      have HL2 : Hid (k < l.length) := Lib.hid (by rw [← HN.out]; exact hlt)
      obtain ⟨b, off, rfl, pc⟩ := (V.out.below R.out.2.2.2).at k HL2.out
      obtain ⟨x, hx⟩ : ∃ x, x = l.getD k kAm.z := ⟨_, rfl⟩
      have XI : Hid (x ∈ l) := Lib.hid (by rw [hx]; exact getD_in HL2.out)
      rw [← hx] at pc
      have XX := Lib.hid hx
      obtain ⟨xn, xv⟩ := x
      have c0 : wr.cell? ⟨b, off + k * 2, none⟩ = some (.string xn) := pc 0 _ rfl
      have c1 : wr.cell? ⟨b, off + k * 2 + 1, none⟩ = some (.int .i64 xv) := pc 1 _ rfl
      obtain ⟨F, hF⟩ : ∃ F, F = (findA xn (toA t)).1 := ⟨_, rfl⟩
      obtain ⟨G, hG⟩ : ∃ G, G = (findA xn (toA t)).2 := ⟨_, rfl⟩
      have OF : Hid (Calls Tryz.prog 35 #[.slice ua m uc, .string xn] wr fun e w' => e = .returned (.tuple #[.int .i64 F, .bool G]) ∧ Below wr.heap.size wr w') := Lib.hid (by rw [hF, hG]; exact refOf_any _ (toA t) xn wr (amts_row (U.out.below R.out.2.2.2)))
      have FF := Lib.hid hF
      have F0 : 0 ≤ F := by rw [hF]; exact find_all_pos (am_pos PT.out.2.1) xn
      have XM : xv ≤ 9223372036854775807 := HF.out _ XI.out
      clear hF hG hx pc
      by_cases hov : xv < F
      · have g1 : decide (xv < F) = true := decide_eq_true hov
        obtain ⟨e1, e2⟩ := ONE.out (mn_bad (x := ⟨xn, xv⟩) (by unfold mnD; exact List.mem_append.2 (Or.inl XI.out)) (by simp only; rw [← FF.out]; exact hov))
        subst e1 e2
        clear hov
        go_wp2_with (first | (go_at_call 35; refine OF.out.mono ?_; rintro e w5 ⟨rfl, hb5⟩; have d1 : w5.cell? ⟨b, off + k * 2 + 1, none⟩ = some (.int .i64 xv) := (hb5.cell (block_lt_of_cell c1)).trans c1; have B5 := Lib.hid (R.out.2.2.2.trans (hb5.mono R.out.2.2.2.size)); clear hb5))
        go_ret2
        exact ⟨none, 0, 0, rfl, OwnR.nil _ _ _, B5.out⟩
      · have g1 : decide (xv < F) = false := decide_eq_false hov
        obtain ⟨D, hD⟩ : ∃ D, D = xv - F := ⟨_, rfl⟩
        have wD : IntKind.i64.wrap (xv - F) = D := by rw [hD, IntKind.wrap_i64]; omega
        have DD : Hid (subV t ⟨xn, xv⟩ = ⟨xn, D⟩ ∧ F ≤ xv) := Lib.hid ⟨by unfold subV; simp only; rw [← FF.out, hD], by omega⟩
        have LQ : Hid ((((l.take k).map (subV t)).length + 1) * kAm.b ≤ 140737488355328) := Lib.hid (by
          rw [List.length_map, List.length_take, ← HN.out]
          exact Nat.le_trans (Nat.mul_le_mul_right 24 (show min k n + 1 ≤ 17 by omega)) (by decide))
        clear hov hD
        go_wp2_with (first | (go_at_call 35; refine OF.out.mono ?_; rintro e w5 ⟨rfl, hb5⟩; have d0 : w5.cell? ⟨b, off + k * 2, none⟩ = some (.string xn) := (hb5.cell (block_lt_of_cell c0)).trans c0; have d1 : w5.cell? ⟨b, off + k * 2 + 1, none⟩ = some (.int .i64 xv) := (hb5.cell (block_lt_of_cell c1)).trans c1; have B5 := Lib.hid (R.out.2.2.2.trans (hb5.mono R.out.2.2.2.size)); have O5 := Lib.hid (R.out.2.1.below hb5); clear hb5))
        have D0 : w5.drew.cell? ⟨b, off + k * 2, none⟩ = some (.string xn) := d0
        have D1 : w5.drew.cell? ⟨b, off + k * 2 + 1, none⟩ = some (.int .i64 xv) := d1
        have O6 : Hid (OwnR kAm w.heap.size w5.drew (.slice oa on oc) ((l.take k).map (subV t))) := Lib.hid (O5.out.below (Below.refl _ w5).drew)
        have Z6 : Hid (w.heap.size ≤ w5.drew.heap.size) := Lib.hid B5.out.size
        go_region_law (first | (refine step_oneA okAm rfl (.tmp 44) (.tmp 58) rfl (B := w.heap.size) (w := w5.drew) (v := .slice oa on oc) (L := (l.take k).map (subV t)) rfl O6.out Z6.out (⟨xn, D⟩ : Am) rfl rfl LQ.out ?_; intro a8 n8 c8 w8 H8))
        all_goals
          have S8 : Hid (OwnR kAm w.heap.size w8 (.slice a8 n8 c8) ((l.take (k + 1)).map (subV t)) ∧ Below w.heap.size w w8) := Lib.hid ⟨by rw [take_onez l k kAm.z HL2.out, List.map_append, ← XX.out, List.map_cons, List.map_nil, DD.out.1]; exact H8.out.1, by
            have q0 : Below w.heap.size w w5.drew := B5.out.trans ((Below.refl _ w5).drew.mono B5.out.size)
            have q1 : Below w.heap.size w (w5.drew.alloc (.cells (kAm.c (⟨xn, D⟩ : Am)).toArray kAm.t)) := q0.alloc q0.size _
            exact q1.trans (grown_belowR H8.out.2 (O6.out.below ((Below.refl _ w5.drew).alloc (Nat.le_refl _) _)) q1.size)⟩
          go_wp2_with fail
          go_roundg (n - (k + 1))
          case measure => have := R.out.1; omega
          case rel => exact ⟨k + 1, a8, n8, c8, rfl, by omega, by go_num, rfl, S8.out.1, fun j hj => by
            by_cases z : j = k
            · rw [z, ← XX.out]; simp only; rw [← FF.out]; exact DD.out.2
            · exact R.out.2.2.1 j (by omega), S8.out.2⟩
    · have hkn : k = n := by omega
      have hge : decide ((k : Int) < (n : Int)) = false := decide_eq_false (by omega)
      have OK : Hid (∀ x ∈ l, (findA x.n (toA t)).1 ≤ x.v) := Lib.hid fun x hx => by
        obtain ⟨j, hj, e⟩ := List.getElem_of_mem hx
        have q := R.out.2.2.1 j (by rw [hkn, HN.out]; exact hj)
        rw [List.getD_eq_getElem?_getD, List.getElem?_eq_getElem hj, e] at q
        exact q
      have O1 : Hid (OwnR kAm w.heap.size wr (.slice oa on oc) (l.map (subV t))) := Lib.hid (by have q := R.out.2.1; rw [hkn, HN.out, List.take_length] at q; exact q)
      have B3 := Lib.hid R.out.2.2.2
      obtain ⟨w3, hw3⟩ : ∃ W, W = wr := ⟨_, rfl⟩
      rw [← hw3] at B3 O1 ⊢
      clear hw3 R hkn
      go_wp2_with fail
      clear hge hlt hk
      go_loopg [6, 10] m (fun g so si wr => ∃ (k : Nat) (oa : Option Addr) (on oc : Nat) (o : List Am), g = m - k ∧ k ≤ m ∧ si = .int .i64 k ∧ so = .slice oa on oc ∧ OwnR kAm w.heap.size wr (.slice oa on oc) o ∧ Mi l t k o ∧ Below w.heap.size w wr)
      case atStart => exact ⟨0, oa, on, oc, _, rfl, Nat.zero_le _, rfl, rfl, O1.out, Mi.start PL.out.2.2, B3.out⟩
      case round =>
        clear B3 O1
        obtain ⟨i, pa, pn, pq, o, hg, hi, rfl, rfl, ho, hmi, hb⟩ := hrel
        have Q : Hid (gk = m - i ∧ OwnR kAm w.heap.size wr (.slice pa pn pq) o ∧ Mi l t i o ∧ Below w.heap.size w wr) := Lib.hid ⟨hg, ho, hmi, hb⟩
        have PN : Hid (pn = o.length) := Lib.hid (by obtain ⟨_, _, e⟩ := ho.slice; simp only [Value.slice.injEq] at e; exact e.2.1)
        clear hg ho hmi hb
        by_cases hlt : i < m
        · have hlt' : (i : Int) < (m : Int) := by omega
          have HL2 : Hid (i < t.length) := Lib.hid (by rw [← HM.out]; exact hlt)
          obtain ⟨b, off, rfl, pc⟩ := (U.out.below Q.out.2.2.2).at i HL2.out
          obtain ⟨y, hy⟩ : ∃ y, y = t.getD i kAm.z := ⟨_, rfl⟩
          have YI : Hid (y ∈ t) := Lib.hid (by rw [hy]; exact getD_in HL2.out)
          rw [← hy] at pc
          have YY := Lib.hid hy
          obtain ⟨yn, yv⟩ := y
          have c0 : wr.cell? ⟨b, off + i * 2, none⟩ = some (.string yn) := pc 0 _ rfl
          have c1 : wr.cell? ⟨b, off + i * 2 + 1, none⟩ = some (.int .i64 yv) := pc 1 _ rfl
          obtain ⟨F, hF⟩ : ∃ F, F = (findA yn (toA l)).1 := ⟨_, rfl⟩
          obtain ⟨G, hG⟩ : ∃ G, G = (findA yn (toA l)).2 := ⟨_, rfl⟩
          have OF : Hid (Calls Tryz.prog 35 #[.slice va n vc, .string yn] wr fun e w' => e = .returned (.tuple #[.int .i64 F, .bool G]) ∧ Below wr.heap.size wr w') := Lib.hid (by rw [hF, hG]; exact refOf_any _ (toA l) yn wr (amts_row (V.out.below Q.out.2.2.2)))
          have GG : Hid (G = (findA (t.getD i kAm.z).n (toA l)).2) := Lib.hid (by rw [← YY.out]; exact hG)
          clear hF hG hy pc
          cases G with
          | true =>
            have MK := Lib.hid (Q.out.2.2.1.skip HL2.out GG.out.symm)
            go_wp2_with (first | (go_at_call 35; refine OF.out.mono ?_; rintro e w5 ⟨rfl, hb5⟩; have B5 := Lib.hid (Q.out.2.2.2.trans (hb5.mono Q.out.2.2.2.size)); have O5 := Lib.hid (Q.out.2.1.below hb5); clear hb5))
            go_roundg (m - (i + 1))
            case measure => have := Q.out.1; omega
            case rel => exact ⟨i + 1, pa, pn, pq, o, rfl, by omega, by go_num, rfl, O5.out, MK.out, B5.out⟩
          | false =>
            by_cases hy0 : 0 < yv
            · have g1 : decide (yv > 0) = true := decide_eq_true hy0
              obtain ⟨e1, e2⟩ := ONE.out (mn_bad (x := ⟨yn, 0⟩) (by
                unfold mnD addN
                refine List.mem_append.2 (Or.inr (List.mem_map.2 ⟨⟨yn, yv⟩, List.mem_filter.2 ⟨YI.out, ?_⟩, rfl⟩))
                have q := GG.out
                rw [← YY.out] at q
                simp only at q ⊢
                rw [← q]; rfl) (by
                have q := find_self PT.out.2.2 YI.out
                simp only at q ⊢
                rw [q]; exact hy0))
              subst e1 e2
              clear hy0
              go_wp2_with (first | (go_at_call 35; refine OF.out.mono ?_; rintro e w5 ⟨rfl, hb5⟩; have d1 : w5.cell? ⟨b, off + i * 2 + 1, none⟩ = some (.int .i64 yv) := (hb5.cell (block_lt_of_cell c1)).trans c1; have B5 := Lib.hid (Q.out.2.2.2.trans (hb5.mono Q.out.2.2.2.size)); clear hb5))
              go_ret2
              exact ⟨none, 0, 0, rfl, OwnR.nil _ _ _, B5.out⟩
            · have g1 : decide (yv > 0) = false := decide_eq_false hy0
              have MK := Lib.hid (Q.out.2.2.1.put HL2.out PT.out.2.2 GG.out.symm (by rw [← YY.out]; simp only; omega))
              rw [← YY.out] at MK
              have PA : Hid (∀ W, Below wr.heap.size wr W → Calls Tryz.prog 30 #[.slice pa pn pq, .agg #[.string yn, .int .i64 0]] W fun e w' => ∃ a2 n2 c2, e = .returned (.slice a2 n2 c2) ∧ OwnR kAm W.heap.size w' (.slice a2 n2 c2) (plc (⟨yn, 0⟩ : Am) o) ∧ Below W.heap.size W w') := Lib.hid fun W h => placed_any (.slice pa pn pq) o (⟨yn, 0⟩ : Am) W ((Q.out.2.1.below h).row okAm) (by have := Q.out.2.2.1.len; rw [← HN.out] at this; omega)
              clear hy0
              go_wp2_with (first | (go_at_call 35; refine OF.out.mono ?_; rintro e w5 ⟨rfl, hb5⟩; have d0 : w5.cell? ⟨b, off + i * 2, none⟩ = some (.string yn) := (hb5.cell (block_lt_of_cell c0)).trans c0; have d1 : w5.cell? ⟨b, off + i * 2 + 1, none⟩ = some (.int .i64 yv) := (hb5.cell (block_lt_of_cell c1)).trans c1; have B5 := Lib.hid hb5; clear hb5) | (go_at_call 30; refine (PA.out w5 B5.out).mono ?_; rintro e w6 ⟨a2, n2, c2, rfl, ho2, hb6⟩; have Z6 : Hid (OwnR kAm w.heap.size w6 (.slice a2 n2 c2) (plc (⟨yn, 0⟩ : Am) o) ∧ Below w.heap.size w w6) := Lib.hid ⟨ho2.mono (Nat.le_trans Q.out.2.2.2.size B5.out.size), Q.out.2.2.2.trans ((B5.out.trans (hb6.mono B5.out.size)).mono Q.out.2.2.2.size)⟩; clear ho2 hb6))
              go_roundg (m - (i + 1))
              case measure => have := Q.out.1; omega
              case rel => exact ⟨i + 1, a2, n2, c2, _, rfl, by omega, by go_num, rfl, Z6.out.1, MK.out, Z6.out.2⟩
        · have hin : i = m := by omega
          have hge : decide ((i : Int) < (m : Int)) = false := decide_eq_false (by omega)
          have NR := Lib.hid (Mi.done (o := o) (by have q := Q.out.2.2.1; rw [hin, HM.out] at q; exact q) HB.out HF.out OK.out)
          clear hin
          by_cases h16 : 16 < pn
          · have g16 : decide ((pn : Int) > 16) = true := decide_eq_true (by omega)
            have G := Lib.hid h16
            clear h16
            go_wp2_with fail
            go_ret2
            exact ⟨none, 0, 0, by rw [EZ.out.1, NR.out.1, ← PN.out, if_pos G.out]; rfl, by rw [EZ.out.2, NR.out.2, ← PN.out, if_pos G.out]; exact OwnR.nil _ _ _, Q.out.2.2.2⟩
          · have g16 : decide ((pn : Int) > 16) = false := decide_eq_false (by omega)
            have G := Lib.hid h16
            clear h16
            go_wp2_with fail
            go_ret2
            exact ⟨pa, pn, pq, by rw [EZ.out.1, NR.out.1, ← PN.out, if_neg G.out]; rfl, by rw [EZ.out.2, NR.out.2, ← PN.out, if_neg G.out]; exact Q.out.2.1, Q.out.2.2.2⟩
theorem refMinus_any (v u : Value) (l t : List Am) (w : World) (hv : Row kAm w v l) (hu : Row kAm w u t) (hf : ∀ x ∈ l, x.v ≤ 9223372036854775807) (hs : ∀ x ∈ l, x.n.size ≤ 140737488355328) (hs' : ∀ x ∈ t, x.n.size ≤ 140737488355328) :
    Calls Tryz.prog 15 #[v, u] w fun e w' => ∃ a n c, e = .returned (.tuple #[.slice a n c, .int .i64 (mnE l t)]) ∧ OwnR kAm w.heap.size w' (.slice a n c) (mnL l t) ∧ Below w.heap.size w w' := by
  cases hb : bothB l t with
  | false =>
    have e1 : mnE l t = 31 := by unfold mnE; rw [if_neg (by rw [hb]; simp)]
    have e2 : mnL l t = [] := by unfold mnL; rw [if_neg (by rw [hb]; simp)]
    rw [e1, e2]
    exact (refMinus_bad v u l t w hv hu hs hs' hb).mono fun e w' ⟨h1, h2⟩ => ⟨none, 0, 0, h1, OwnR.nil _ _ _, h2⟩
  | true => exact refMinus_good v u l t w hv hu hf hs hs' hb
end Go.Proofs.YtmkdmfjdhajiaaaGreatDoor
end S5

section S6
namespace Go.Proofs.YtmkdmfjdhajiaaaGreatDoor
open Go.RowKit Go.Lib
open Go.Sort (grow)
theorem behind_fullL (v : Value) (l : List Am) (m : Amt) (w : World) (n : Nat) (hn : n = l.length) (hv : Row kAm w v l) (hm : Mark w m) (hl : (n + 1) * 24 ≤ 140737488355328) :
    Calls Tryz.prog 5 #[v] w fun e w' => ∃ g cap, e = .returned (.slice (some ⟨g, 0, none⟩) (n + 1) cap) ∧ n + 1 ≤ cap ∧ cap ≤ 9223372036854775807 ∧ Row kAm w' (.slice (some ⟨g, 0, none⟩) n cap) l ∧ Amts w' (.slice (some ⟨g, 0, none⟩) (n + 1) cap) (toA l ++ [m]) ∧ Below w.heap.size w w' := by
  subst hn
  refine (behind_any v (toA l) m w (amts_row hv) hm (by rw [toA_len]; exact hl)).mono ?_
  rintro e w' ⟨v', rfl, ho, hb⟩
  have ha := ho.amts
  obtain ⟨_, ⟨_, hn⟩ | ⟨g, cap, cur, hv', _, _, hn, hm', _⟩⟩ := ho
  · simp at hn
  · subst hv'
    have e1 : (toA l ++ [m]).length = l.length + 1 := by rw [List.length_append, toA_len]; rfl
    rw [e1] at hn ha ⊢
    have f := row_amts (Amts.front ha (by simp))
    rw [toA_len, ofA_toA] at f
    unfold maxLen at hm'
    exact ⟨g, cap, rfl, hn, hm', f, ha, hb⟩
theorem untouched_rowL (g cap n : Nat) (v : Value) (l : List Am) (m : Amt) (w : World) (hn : n = l.length) (hc : Amts w (.slice (some ⟨g, 0, none⟩) (n + 1) cap) (toA l ++ [m])) (hv : Row kAm w v l) (hm : Mark w m) :
    Calls Tryz.prog 8 #[.slice (some ⟨g, 0, none⟩) (n + 1) cap, v] w fun e w' => e = .returned (.bool true) ∧ Below w.heap.size w w' := by
  subst hn
  have q := untouched_yes g cap v (toA l) m w (by rw [toA_len]; exact hc) (amts_row hv) hm
  rw [toA_len] at q; exact q
theorem own_outL {B k : Nat} {w w' : World} {E : Int} {L : List Am} {e : Ending} (hk : k = L.length) (h : ∃ a n c, e = .returned (.tuple #[.slice a n c, .int .i64 E]) ∧ OwnR kAm B w' (.slice a n c) L ∧ Below w.heap.size w w') : ∃ a c, e = .returned (.tuple #[.slice a k c, .int .i64 E]) ∧ Row kAm w' (.slice a k c) L ∧ Below w.heap.size w w' := by
  obtain ⟨a, n, c, he, ho, hb⟩ := h
  obtain ⟨_, _, e', _, _⟩ := (ho.row okAm).len
  simp only [Value.slice.injEq] at e'
  obtain ⟨rfl, rfl, rfl⟩ := e'
  subst hk
  exact ⟨a, c, he, ho.row okAm, hb⟩
theorem row_plL {g n cap : Nat} : ∀ ad n' c, (Value.slice (some ⟨g, 0, none⟩) n cap) = .slice (some ad) n' c → ∃ b off, ad = ⟨b, off, none⟩ := by
  intro ad n' c e
  simp only [Value.slice.injEq, Option.some.injEq] at e
  exact ⟨g, 0, e.1.symm⟩
set_option maxHeartbeats 16000000 in
set_option maxRecDepth 100000 in
theorem quantLists_core (v u : Value) (l t : List Am) (m : Amt) (n p : Nat) (w : World) (G : Glob w) (hm : Mark w m) (hv : Row kAm w v l) (hu : Row kAm w u t) (hz : (n + 1) * 24 ≤ 140737488355328) (hz' : (p + 1) * 24 ≤ 140737488355328) (hf : ∀ x ∈ l, x.v ≤ 9223372036854775807) (hf' : ∀ x ∈ t, x.v ≤ 9223372036854775807) (hs : ∀ x ∈ l, x.n.size ≤ 140737488355328) (hs' : ∀ x ∈ t, x.n.size ≤ 140737488355328) (hn : n = l.length) (hp : p = t.length) :
    Calls Tryz.prog 3 #[v, u] w fun e w' => e = .returned (.bool true) ∧ Below w.heap.size w w' := by
  have K := Lib.hid (known_ok w G)
  have HF := Lib.hid (And.intro hf hf')
  have HS := Lib.hid (And.intro hs hs')
  have HN := Lib.hid (And.intro hn hp)
  have HZ := Lib.hid (And.intro hz hz')
  have HV := Lib.hid (And.intro hv hu)
  have HM := Lib.hid hm
  obtain ⟨va, vc, ev, hvc, hvm⟩ := hv.len
  obtain ⟨ua, uc, eu, huc, hum⟩ := hu.len
  unfold maxLen at hvm hum
  rw [← hn] at ev hvc
  rw [← hp] at eu huc
  subst ev eu
  have n47 : n ≤ 140737488355328 := by omega
  have p47 : p ≤ 140737488355328 := by omega
  clear hf hf' hs hs' hn hp hz hz' hv hu hm G
  go_enter Tryz.func3, Tryz.ntmps3
  go_wp2_with fail
  refine K.out.mono ?_
  rintro e w1 ⟨rfl, hb⟩
  have B1 := Lib.hid hb
  clear hb K
  go_wp2_with fail
  refine (behind_fullL (.slice va n vc) l m w1 n HN.out.1 (HV.out.1.below B1.out) (HM.out.below B1.out) HZ.out.1).mono ?_
  rintro e w2 ⟨g, cap, rfl, hc1, hc2, hr, ha, hb⟩
  have X2 : Hid (Row kAm w2 (.slice (some ⟨g, 0, none⟩) n cap) l ∧ Amts w2 (.slice (some ⟨g, 0, none⟩) (n + 1) cap) (toA l ++ [m])) := Lib.hid ⟨hr, ha⟩
  have B2 := Lib.hid (B1.out.trans (hb.mono B1.out.size))
  have i1 : (n : Int) ≤ (cap : Int) := by omega
  clear hr ha hb B1 hc1
  go_wp2_with fail
  refine (behind_fullL (.slice ua p uc) t m w2 p HN.out.2 (HV.out.2.below B2.out) (HM.out.below B2.out) HZ.out.2).mono ?_
  rintro e w4 ⟨g', cap', rfl, hc3, hc4, hr, ha, hb⟩
  have B4 := Lib.hid (B2.out.trans (hb.mono B2.out.size))
  have i2 : (p : Int) ≤ (cap' : Int) := by omega
  have X : Hid (∀ W, Below w4.heap.size w4 W → Row kAm W (.slice (some ⟨g, 0, none⟩) n cap) l ∧ Row kAm W (.slice (some ⟨g', 0, none⟩) p cap') t ∧ Row kAm W (.slice va n vc) l ∧ Row kAm W (.slice ua p uc) t) := Lib.hid fun W h => ⟨(X2.out.1.below hb).below h, hr.below h, (HV.out.1.below B4.out).below h, (HV.out.2.below B4.out).below h⟩
  have UA : Hid (∀ W, Below w4.heap.size w4 W → Calls Tryz.prog 8 #[.slice (some ⟨g, 0, none⟩) (n + 1) cap, .slice va n vc] W fun e w' => e = .returned (.bool true) ∧ Below W.heap.size W w') := Lib.hid fun W h => untouched_rowL g cap n _ l m W HN.out.1 ((X2.out.2.below hb).below h) (X.out W h).2.2.1 ((HM.out.below B4.out).below h)
  have UB : Hid (∀ W, Below w4.heap.size w4 W → Calls Tryz.prog 8 #[.slice (some ⟨g', 0, none⟩) (p + 1) cap', .slice ua p uc] W fun e w' => e = .returned (.bool true) ∧ Below W.heap.size W w') := Lib.hid fun W h => untouched_rowL g' cap' p _ t m W HN.out.2 (ha.below h) (X.out W h).2.2.2 ((HM.out.below B4.out).below h)
  clear hr ha hb B2 X2 hc3
  obtain ⟨C, hC⟩ : ∃ C, C = amsC l := ⟨_, rfl⟩
  have VA : Hid (∀ W, Below w4.heap.size w4 W → Calls Tryz.prog 6 #[.slice (some ⟨g, 0, none⟩) n cap] W fun e w' => e = .returned (.int .i64 C) ∧ Below W.heap.size W w') := Lib.hid fun W h => by rw [hC]; exact valid_any _ l W (X.out W h).1
  have VB : Hid (∀ W, Below w4.heap.size w4 W → Calls Tryz.prog 7 #[.slice va n vc] W fun e w' => e = .returned (.int .i64 C) ∧ Below W.heap.size W w') := Lib.hid fun W h => by rw [hC]; exact refValid_any _ l W (X.out W h).2.2.1 HS.out.1
  clear hC
  have gC : (C != C) = false := bne_self_eq_false _
  have T4 : Hid (Below w4.heap.size w4 w4) := Lib.hid (Below.refl _ _)
  go_wp2_with fail
  refine (VA.out w4 T4.out).mono ?_
  rintro e w5 ⟨rfl, hb⟩
  have T5 : Hid (Below w4.heap.size w4 w5) := Lib.hid (T4.out.trans (hb.mono T4.out.size))
  clear hb T4 VA
  go_wp2_with fail
  refine (VB.out w5 T5.out).mono ?_
  rintro e w6 ⟨rfl, hb⟩
  have T6 : Hid (Below w4.heap.size w4 w6) := Lib.hid (T5.out.trans (hb.mono T5.out.size))
  clear hb T5 VB
  go_wp2_with fail
  refine (UA.out w6 T6.out).mono ?_
  rintro e w7 ⟨rfl, hb⟩
  have T7 : Hid (Below w4.heap.size w4 w7) := Lib.hid (T6.out.trans (hb.mono T6.out.size))
  clear hb T6
  obtain ⟨E1, hE1⟩ : ∃ E, E = nrE l := ⟨_, rfl⟩
  obtain ⟨L1, hL1⟩ : ∃ L, L = nrL l := ⟨_, rfl⟩
  obtain ⟨k1, hk1⟩ : ∃ k, k = L1.length := ⟨_, rfl⟩
  have PP : Hid (∀ W, Below w4.heap.size w4 W → Calls Tryz.prog 9 #[.slice (some ⟨g, 0, none⟩) n cap] W fun e w' => ∃ a c, e = .returned (.tuple #[.slice a k1 c, .int .i64 E1]) ∧ Row kAm w' (.slice a k1 c) L1 ∧ Below W.heap.size W w') := Lib.hid fun W h => by have q := normal_any _ l W (X.out W h).1 row_plL (by rw [← HN.out.1]; have := HZ.out.1; omega) HF.out.1; rw [← hE1, ← hL1] at q; exact q.mono fun _ _ r => own_outL hk1 r
  have PR : Hid (∀ W, Below w4.heap.size w4 W → Calls Tryz.prog 10 #[.slice va n vc] W fun e w' => ∃ a c, e = .returned (.tuple #[.slice a k1 c, .int .i64 E1]) ∧ Row kAm w' (.slice a k1 c) L1 ∧ Below W.heap.size W w') := Lib.hid fun W h => by have q := refNormal_any _ l W (X.out W h).2.2.1 (by rw [← HN.out.1]; exact HZ.out.1) HF.out.1 HS.out.1; rw [← hE1, ← hL1] at q; exact q.mono fun _ _ r => own_outL hk1 r
  have gE1 : (E1 != E1) = false := bne_self_eq_false _
  clear hE1 hL1 hk1
  go_wp2_with fail
  refine (PP.out w7 T7.out).mono ?_
  rintro e w8 ⟨ra, rc, rfl, hr, hb⟩
  have T8 : Hid (Below w4.heap.size w4 w8) := Lib.hid (T7.out.trans (hb.mono T7.out.size))
  have N8 : Hid (Row kAm w8 (.slice ra k1 rc) L1) := Lib.hid hr
  clear hr hb T7 PP
  go_wp2_with fail
  refine (PR.out w8 T8.out).mono ?_
  rintro e w9 ⟨sa, sc, rfl, hr, hb⟩
  have T9 : Hid (Below w4.heap.size w4 w9) := Lib.hid (T8.out.trans (hb.mono T8.out.size))
  have SR := Lib.hid (same_row _ _ L1 w9 (N8.out.below hb) hr)
  clear hr hb T8 N8 PR
  go_wp2_with fail
  refine SR.out.mono ?_
  rintro e w10 ⟨rfl, hb⟩
  have T10 : Hid (Below w4.heap.size w4 w10) := Lib.hid (T9.out.trans (hb.mono T9.out.size))
  clear hb T9 SR
  go_wp2_with fail
  refine (UA.out w10 T10.out).mono ?_
  rintro e w11 ⟨rfl, hb⟩
  have T11 : Hid (Below w4.heap.size w4 w11) := Lib.hid (T10.out.trans (hb.mono T10.out.size))
  clear hb T10
  obtain ⟨E2, hE2⟩ : ∃ E, E = plE l t := ⟨_, rfl⟩
  obtain ⟨L2, hL2⟩ : ∃ L, L = plL l t := ⟨_, rfl⟩
  obtain ⟨k2, hk2⟩ : ∃ k, k = L2.length := ⟨_, rfl⟩
  have PP : Hid (∀ W, Below w4.heap.size w4 W → Calls Tryz.prog 12 #[.slice (some ⟨g, 0, none⟩) n cap, .slice (some ⟨g', 0, none⟩) p cap'] W fun e w' => ∃ a c, e = .returned (.tuple #[.slice a k2 c, .int .i64 E2]) ∧ Row kAm w' (.slice a k2 c) L2 ∧ Below W.heap.size W w') := Lib.hid fun W h => by have q := plus_all _ _ l t W (X.out W h).1 (X.out W h).2.1 HF.out.1 HF.out.2; rw [← hE2, ← hL2] at q; exact q.mono fun _ _ r => own_outL hk2 r
  have PR : Hid (∀ W, Below w4.heap.size w4 W → Calls Tryz.prog 13 #[.slice va n vc, .slice ua p uc] W fun e w' => ∃ a c, e = .returned (.tuple #[.slice a k2 c, .int .i64 E2]) ∧ Row kAm w' (.slice a k2 c) L2 ∧ Below W.heap.size W w') := Lib.hid fun W h => by have q := refPlus_any _ _ l t W (X.out W h).2.2.1 (X.out W h).2.2.2 HF.out.1 HF.out.2 HS.out.1 HS.out.2; rw [← hE2, ← hL2] at q; exact q.mono fun _ _ r => own_outL hk2 r
  have gE2 : (E2 != E2) = false := bne_self_eq_false _
  clear hE2 hL2 hk2
  go_wp2_with fail
  have BD : Hid (Below w4.heap.size w4 w11.drew) := Lib.hid (T11.out.trans ((Below.refl _ w11).drew.mono T11.out.size))
  go_cut [8, 7] (fun s8 s7 wx => ∃ ra rc, s8 = .slice ra k2 rc ∧ s7 = .int .i64 E2 ∧ Row kAm wx (.slice ra k2 rc) L2 ∧ Below w4.heap.size w4 wx)
  case first =>
    go_region_with (go_at_call 12; refine (PP.out _ BD.out).mono ?_; rintro e x2 ⟨ra, rc, rfl, hr, hb⟩; have Q2 : Hid (Row kAm x2 (.slice ra k2 rc) L2 ∧ Below w4.heap.size w4 x2) := Lib.hid ⟨hr, BD.out.trans (hb.mono BD.out.size)⟩; clear hr hb)
    all_goals
      go_wp2_with fail
      go_meet
      exact ⟨ra, rc, rfl, rfl, Q2.out.1, Q2.out.2⟩
  case rest =>
    obtain ⟨ra, rc, rfl, rfl, hr, hb⟩ := hcut
    obtain ⟨w12, hw⟩ : ∃ W, W = wc := ⟨_, rfl⟩
    rw [← hw] at hr hb ⊢
    clear hw
    have T12 := Lib.hid hb
    have N12 : Hid (Row kAm w12 (.slice ra k2 rc) L2) := Lib.hid hr
    clear hr hb T11 PP BD
    go_wp2_with fail
    refine (PR.out w12 T12.out).mono ?_
    rintro e w13 ⟨sa, sc, rfl, hr, hb⟩
    have T13 : Hid (Below w4.heap.size w4 w13) := Lib.hid (T12.out.trans (hb.mono T12.out.size))
    have SR := Lib.hid (same_row _ _ L2 w13 (N12.out.below hb) hr)
    clear hr hb T12 N12 PR
    go_wp2_with fail
    refine SR.out.mono ?_
    rintro e w14 ⟨rfl, hb⟩
    have T14 : Hid (Below w4.heap.size w4 w14) := Lib.hid (T13.out.trans (hb.mono T13.out.size))
    clear hb T13 SR
    go_wp2_with fail
    refine (UA.out w14 T14.out).mono ?_
    rintro e w15 ⟨rfl, hb⟩
    have T15 : Hid (Below w4.heap.size w4 w15) := Lib.hid (T14.out.trans (hb.mono T14.out.size))
    clear hb T14
    go_wp2_with fail
    refine (UB.out w15 T15.out).mono ?_
    rintro e w16 ⟨rfl, hb⟩
    have T16 : Hid (Below w4.heap.size w4 w16) := Lib.hid (T15.out.trans (hb.mono T15.out.size))
    clear hb T15
    obtain ⟨E3, hE3⟩ : ∃ E, E = mnE l t := ⟨_, rfl⟩
    obtain ⟨L3, hL3⟩ : ∃ L, L = mnL l t := ⟨_, rfl⟩
    obtain ⟨k3, hk3⟩ : ∃ k, k = L3.length := ⟨_, rfl⟩
    have PP : Hid (∀ W, Below w4.heap.size w4 W → Calls Tryz.prog 14 #[.slice (some ⟨g, 0, none⟩) n cap, .slice (some ⟨g', 0, none⟩) p cap'] W fun e w' => ∃ a c, e = .returned (.tuple #[.slice a k3 c, .int .i64 E3]) ∧ Row kAm w' (.slice a k3 c) L3 ∧ Below W.heap.size W w') := Lib.hid fun W h => by have q := minus_any _ _ l t W (X.out W h).1 row_plL (X.out W h).2.1 HF.out.1 HF.out.2; rw [← hE3, ← hL3] at q; exact q.mono fun _ _ r => own_outL hk3 r
    have PR : Hid (∀ W, Below w4.heap.size w4 W → Calls Tryz.prog 15 #[.slice va n vc, .slice ua p uc] W fun e w' => ∃ a c, e = .returned (.tuple #[.slice a k3 c, .int .i64 E3]) ∧ Row kAm w' (.slice a k3 c) L3 ∧ Below W.heap.size W w') := Lib.hid fun W h => by have q := refMinus_any _ _ l t W (X.out W h).2.2.1 (X.out W h).2.2.2 HF.out.1 HS.out.1 HS.out.2; rw [← hE3, ← hL3] at q; exact q.mono fun _ _ r => own_outL hk3 r
    have gE3 : (E3 != E3) = false := bne_self_eq_false _
    clear hE3 hL3 hk3
    go_wp2_with fail
    have BD : Hid (Below w4.heap.size w4 w16.drew) := Lib.hid (T16.out.trans ((Below.refl _ w16).drew.mono T16.out.size))
    go_cut [8, 7] (fun s8 s7 wx => ∃ ra rc, s8 = .slice ra k3 rc ∧ s7 = .int .i64 E3 ∧ Row kAm wx (.slice ra k3 rc) L3 ∧ Below w4.heap.size w4 wx)
    case first =>
      go_region_with (go_at_call 14; refine (PP.out _ BD.out).mono ?_; rintro e x2 ⟨ra, rc, rfl, hr, hb⟩; have Q2 : Hid (Row kAm x2 (.slice ra k3 rc) L3 ∧ Below w4.heap.size w4 x2) := Lib.hid ⟨hr, BD.out.trans (hb.mono BD.out.size)⟩; clear hr hb)
      all_goals
        go_wp2_with fail
        go_meet
        exact ⟨ra, rc, rfl, rfl, Q2.out.1, Q2.out.2⟩
    case rest =>
      obtain ⟨ra, rc, rfl, rfl, hr, hb⟩ := hcut
      obtain ⟨w17, hw⟩ : ∃ W, W = wc := ⟨_, rfl⟩
      rw [← hw] at hr hb ⊢
      clear hw
      have T17 := Lib.hid hb
      have N17 : Hid (Row kAm w17 (.slice ra k3 rc) L3) := Lib.hid hr
      clear hr hb T16 PP BD
      go_wp2_with fail
      refine (PR.out w17 T17.out).mono ?_
      rintro e w18 ⟨sa, sc, rfl, hr, hb⟩
      have T18 : Hid (Below w4.heap.size w4 w18) := Lib.hid (T17.out.trans (hb.mono T17.out.size))
      have SR := Lib.hid (same_row _ _ L3 w18 (N17.out.below hb) hr)
      clear hr hb T17 N17 PR
      go_wp2_with fail
      refine SR.out.mono ?_
      rintro e w19 ⟨rfl, hb⟩
      have T19 : Hid (Below w4.heap.size w4 w19) := Lib.hid (T18.out.trans (hb.mono T18.out.size))
      clear hb T18 SR
      go_wp2_with fail
      refine (UA.out w19 T19.out).mono ?_
      rintro e w20 ⟨rfl, hb⟩
      have T20 : Hid (Below w4.heap.size w4 w20) := Lib.hid (T19.out.trans (hb.mono T19.out.size))
      clear hb T19
      go_wp2_with fail
      refine (UB.out w20 T20.out).mono ?_
      rintro e w21 ⟨rfl, hb⟩
      have T21 : Hid (Below w4.heap.size w4 w21) := Lib.hid (T20.out.trans (hb.mono T20.out.size))
      clear hb T20
      obtain ⟨s, e5, PS⟩ : ∃ (s : ByteArray) (e5 : Int), Hid ((∀ W, Below w4.heap.size w4 W → Calls Tryz.prog 16 #[.slice (some ⟨g, 0, none⟩) n cap, .slice (some ⟨g', 0, none⟩) p cap'] W fun e w' => e = .returned (.tuple #[.string s, .int .i64 e5]) ∧ Below W.heap.size W w') ∧ (∀ W, Below w4.heap.size w4 W → Calls Tryz.prog 17 #[.slice va n vc, .slice ua p uc] W fun e w' => e = .returned (.tuple #[.string s, .int .i64 e5]) ∧ Below W.heap.size W w')) := by
        cases hb : bothB l t with
        | false => exact ⟨⟨#[]⟩, 31, Lib.hid ⟨fun W h => within_no _ _ l t W (X.out W h).1 (X.out W h).2.1 hb, fun W h => refWithin_bad _ _ l t W (X.out W h).2.2.1 (X.out W h).2.2.2 HS.out.1 HS.out.2 hb⟩⟩
        | true => exact ⟨wiT l t, 0, Lib.hid ⟨fun W h => within_yes _ _ l t W (X.out W h).1 (X.out W h).2.1 hb, fun W h => refWithin_good _ _ l t W (X.out W h).2.2.1 (X.out W h).2.2.2 HS.out.1 HS.out.2 hb⟩⟩
      have ge5 : (e5 == e5) = true := beq_self_eq_true _
      have gs5 : (s.toList == s.toList) = true := beq_self_eq_true _
      go_wp2_with fail
      have BD : Hid (Below w4.heap.size w4 w21.drew) := Lib.hid (T21.out.trans ((Below.refl _ w21).drew.mono T21.out.size))
      go_cut [11, 7] (fun s11 s7 wx => s11 = .string s ∧ s7 = .int .i64 e5 ∧ Below w4.heap.size w4 wx)
      case first =>
        go_region_with (go_at_call 16; refine (PS.out.1 _ BD.out).mono ?_; rintro e x2 ⟨rfl, hb⟩; have Q2 : Hid (Below w4.heap.size w4 x2) := Lib.hid (BD.out.trans (hb.mono BD.out.size)); clear hb)
        all_goals
          go_wp2_with fail
          go_meet
          exact ⟨rfl, rfl, Q2.out⟩
      case rest =>
        obtain ⟨rfl, rfl, hb⟩ := hcut
        obtain ⟨w22, hw⟩ : ∃ W, W = wc := ⟨_, rfl⟩
        rw [← hw] at hb ⊢
        clear hw
        have T22 := Lib.hid hb
        clear hb T21 BD
        go_wp2_with fail
        refine (PS.out.2 w22 T22.out).mono ?_
        rintro e w23 ⟨rfl, hb⟩
        have T23 : Hid (Below w4.heap.size w4 w23) := Lib.hid (T22.out.trans (hb.mono T22.out.size))
        clear hb T22
        go_wp2_with fail
        refine (UA.out w23 T23.out).mono ?_
        rintro e w24 ⟨rfl, hb⟩
        have T24 : Hid (Below w4.heap.size w4 w24) := Lib.hid (T23.out.trans (hb.mono T23.out.size))
        clear hb T23
        go_wp2_with fail
        refine (UB.out w24 T24.out).mono ?_
        rintro e w25 ⟨rfl, hb⟩
        have T25 : Hid (Below w4.heap.size w4 w25) := Lib.hid (T24.out.trans (hb.mono T24.out.size))
        clear hb T24
        go_wp2_with fail
        go_ret
        exact ⟨by first | rfl | simp, B4.out.trans (T25.out.mono B4.out.size)⟩
theorem quantLists_walk (v : Value) (l : List Am) (u : Value) (t : List Am) (w : World) (hN : Glob w ∧ ∃ m, Mark w m) (hv : Row kAm w v l) (hs : (l.length + 1) * 24 ≤ 140737488355328 ∧ ∀ x ∈ l, x.v ≤ 9223372036854775807 ∧ x.n.size ≤ 140737488355328) (hu : Row kAm w u t) (hs' : (t.length + 1) * 24 ≤ 140737488355328 ∧ ∀ x ∈ t, x.v ≤ 9223372036854775807 ∧ x.n.size ≤ 140737488355328) :
    Calls Tryz.prog 3 #[v, u] w fun e w' => e = .returned (.bool true) ∧ Below w.heap.size w w' := by
  obtain ⟨G, m, hm⟩ := hN
  exact quantLists_core v u l t m _ _ w G hm hv hu hs.1 hs'.1 (fun x hx => (hs.2 x hx).1) (fun x hx => (hs'.2 x hx).1) (fun x hx => (hs.2 x hx).2) (fun x hx => (hs'.2 x hx).2) rfl rfl
end Go.Proofs.YtmkdmfjdhajiaaaGreatDoor
end S6
