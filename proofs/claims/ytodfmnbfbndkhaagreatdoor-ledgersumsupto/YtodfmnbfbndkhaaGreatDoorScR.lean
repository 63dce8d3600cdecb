/-
  Of of every object.
-/
import Derived.Test.YtodfmnbfbndkhaaGreatDoorScI
import Derived.Test.YtodfmnbfbndkhaaGreatDoorScL
namespace Go.Proofs.YtodfmnbfbndkhaaGreatDoor
open Go.RowKit
def hP (o : Ob) (k a : Int) : Bool := holdB o k.toNat a
/-- The scopes of the kinds below k that it lies in. -/
def accK (o : Ob) : Nat → List (Int × Int)
  | 0 => []
  | k + 1 => accK o k ++ enumA (hP o) k 0 (if k < 5 then 1 else 10)
/-- What Of tells. -/
def canS (o : Ob) : List (Int × Int) := [(0, 0), (if onamB o.ps = true then 2 else 1, 0), (if 0 < o.dl then 3 else 4, 0)] ++ (if 0 ≤ o.pr ∧ o.pr ≤ 9 then [(5, o.pr)] else [])
theorem pr_cases (p : Int) : p = 0 ∨ p = 1 ∨ p = 2 ∨ p = 3 ∨ p = 4 ∨ p = 5 ∨ p = 6 ∨ p = 7 ∨ p = 8 ∨ p = 9 ∨ (¬ (0 ≤ p ∧ p ≤ 9) ∧ ∀ q : Int, 0 ≤ q → q ≤ 9 → (p == q) = false) := by
  by_cases h : 0 ≤ p ∧ p ≤ 9
  · omega
  · iterate 10 apply Or.inr
    exact ⟨h, fun q h0 h9 => by rw [beq_eq_false_iff_ne]; omega⟩
/-- One or none. -/
def tB (b : Bool) (s : Int × Int) : List (Int × Int) := if b = true then [s] else []
theorem acc_all (o : Ob) : accK o 6 = tB true (0, 0) ++ (tB (!onamB o.ps) (1, 0) ++ (tB (onamB o.ps) (2, 0) ++ (tB (decide (0 < o.dl)) (3, 0) ++ (tB (decide (o.dl ≤ 0)) (4, 0) ++ (tB (o.pr == 0) (5, 0) ++ (tB (o.pr == 1) (5, 1) ++ (tB (o.pr == 2) (5, 2) ++ (tB (o.pr == 3) (5, 3) ++ (tB (o.pr == 4) (5, 4) ++ (tB (o.pr == 5) (5, 5) ++ (tB (o.pr == 6) (5, 6) ++ (tB (o.pr == 7) (5, 7) ++ (tB (o.pr == 8) (5, 8) ++ (tB (o.pr == 9) (5, 9))))))))))))))) := by
  have h : accK o 6 = (((((([] ++ ([] ++ tB true (0, 0))) ++ ([] ++ tB (!onamB o.ps) (1, 0))) ++ ([] ++ tB (onamB o.ps) (2, 0))) ++ ([] ++ tB (decide (0 < o.dl)) (3, 0))) ++ ([] ++ tB (decide (o.dl ≤ 0)) (4, 0))) ++ ((((((((((([] ++ tB (o.pr == 0) (5, 0)) ++ tB (o.pr == 1) (5, 1)) ++ tB (o.pr == 2) (5, 2)) ++ tB (o.pr == 3) (5, 3)) ++ tB (o.pr == 4) (5, 4)) ++ tB (o.pr == 5) (5, 5)) ++ tB (o.pr == 6) (5, 6)) ++ tB (o.pr == 7) (5, 7)) ++ tB (o.pr == 8) (5, 8)) ++ tB (o.pr == 9) (5, 9)))) := rfl
  rw [h]
  simp only [List.nil_append, List.append_assoc]
theorem tB_yes (s : Int × Int) : tB true s = [s] := rfl
theorem tB_no (s : Int × Int) : tB false s = [] := rfl
theorem acc_can (o : Ob) : accK o 6 = canS o := by
  rw [acc_all]
  obtain ⟨op, on, ols, opr, odl, ops, over⟩ := o
  unfold canS
  simp only
  have hdd : ∀ b, decide (0 < odl) = b → decide (odl ≤ 0) = !b := fun b hb => by
    rw [← hb]
    by_cases q : 0 < odl
    · rw [decide_eq_true q, decide_eq_false (by omega)]; rfl
    · rw [decide_eq_false q, decide_eq_true (by omega)]; rfl
  have P : tB (opr == 0) (5, 0) ++ (tB (opr == 1) (5, 1) ++ (tB (opr == 2) (5, 2) ++ (tB (opr == 3) (5, 3) ++ (tB (opr == 4) (5, 4) ++ (tB (opr == 5) (5, 5) ++ (tB (opr == 6) (5, 6) ++ (tB (opr == 7) (5, 7) ++ (tB (opr == 8) (5, 8) ++ (tB (opr == 9) (5, 9)))))))))) = if 0 ≤ opr ∧ opr ≤ 9 then [(5, opr)] else [] := by
    rcases pr_cases opr with rfl | rfl | rfl | rfl | rfl | rfl | rfl | rfl | rfl | rfl | ⟨hp, hq⟩
    iterate 10 rfl
    rw [if_neg hp, hq 0 (by decide) (by decide), hq 1 (by decide) (by decide), hq 2 (by decide) (by decide), hq 3 (by decide) (by decide), hq 4 (by decide) (by decide), hq 5 (by decide) (by decide), hq 6 (by decide) (by decide), hq 7 (by decide) (by decide), hq 8 (by decide) (by decide), hq 9 (by decide) (by decide)]
    rfl
  rw [P]
  by_cases hd : 0 < odl
  · rw [hdd true (decide_eq_true hd), decide_eq_true hd, if_pos hd]
    cases onamB ops <;> rfl
  · rw [hdd false (decide_eq_false hd), decide_eq_false hd, if_neg hd]
    cases onamB ops <;> rfl
theorem filt (p : Int × Int → Bool) (x : Int × Int) (l : List (Int × Int)) : List.filter p (x :: l) = tB (p x) x ++ List.filter p l := by
  unfold tB; rw [List.filter_cons]; split <;> rfl
theorem in_hold (o : Ob) (k a : Int) (h : validB k a = true) : inB o k a = holdB o k.toNat a := by unfold inB; rw [h]; rfl
theorem acc_filter (o : Ob) : allS.filter (fun s => inB o s.1 s.2) = canS o := by
  rw [← acc_can, acc_all]
  simp only [allS, filt, List.filter_nil, List.append_nil]
  rw [in_hold o 0 0 (by decide), in_hold o 1 0 (by decide), in_hold o 2 0 (by decide), in_hold o 3 0 (by decide), in_hold o 4 0 (by decide), in_hold o 5 0 (by decide), in_hold o 5 1 (by decide), in_hold o 5 2 (by decide), in_hold o 5 3 (by decide), in_hold o 5 4 (by decide), in_hold o 5 5 (by decide), in_hold o 5 6 (by decide), in_hold o 5 7 (by decide), in_hold o 5 8 (by decide), in_hold o 5 9 (by decide)]
  rfl

theorem acc_len (o : Ob) (k : Nat) : (accK o k).length ≤ k * 10 := by
  induction k with
  | zero => simp [accK]
  | succ k ih =>
    rw [accK, List.length_append]
    have := enumA_len (hP o) k 0 (if k < 5 then 1 else 10)
    have h2 : (if k < 5 then 1 else 10) ≤ 10 := by split <;> omega
    omega

set_option maxHeartbeats 8000000 in
set_option maxRecDepth 100000 in
theorem of_any (o : Ob) (la : Option Addr) (ln lc : Nat) (pa : Option Addr) (pn pc : Nat) (w : World) (hN : Nms w) (h : Pts w (.slice pa pn pc) o.ps) :
    Calls Tryz.prog 46 #[o.val (.slice la ln lc) (.slice pa pn pc)] w fun e w' => ∃ a n c, e = .returned (.slice a n c) ∧ OwnR kSc w.heap.size w' (.slice a n c) (canS o) ∧ Below w.heap.size w w' := by
  obtain ⟨O, hO⟩ : ∃ O, O = o := ⟨_, rfl⟩
  rw [← hO]
  have HO := Lib.hid hO
  rw [← hO] at h
  obtain ⟨op, on, ols, opr, odl, ops, over⟩ := O
  have H := Lib.hid h
  have HN := Lib.hid hN
  clear h hN hO
  have B0 : Hid (Below w.heap.size w (w.alloc (.cells #[.string op, .string on, .slice la ln lc, .int .i64 opr, .int .i64 odl, .slice pa pn pc, .int .i64 over] 25))) := Lib.hid ((below_alR w).out _)
  have KI := Lib.hid (kinds_any (w.alloc (.cells #[.string op, .string on, .slice la ln lc, .int .i64 opr, .int .i64 odl, .slice pa pn pc, .int .i64 over] 25)))
  unfold Ob.val
  simp only
  go_enter Tryz.func46, Tryz.ntmps46
  go_wp2_with fail
  refine KI.out.mono ?_
  rintro e w2 ⟨rfl, e2⟩
  have BX : Hid (Below w.heap.size w w2 ∧ w2.heap.size = w.heap.size + 2) := Lib.hid (by rw [e2]; exact ⟨B0.out.alloc B0.out.size _, by simp⟩)
  have KC : Hid (∀ W : World, Below w2.heap.size w2 W → (∀ j v, (#[.string op, .string on, .slice la ln lc, .int .i64 opr, .int .i64 odl, .slice pa pn pc, .int .i64 over] : Array Value)[j]? = some v → W.cell? ⟨w.heap.size, j, none⟩ = some v) ∧ (∀ j v, (#[.func (.func 67) #[] #[], .func (.func 68) #[] #[], .func (.func 70) #[] #[], .func (.func 71) #[] #[], .func (.func 72) #[] #[], .func (.func 73) #[] #[]] : Array Value)[j]? = some v → W.cell? ⟨w.heap.size + 1, j, none⟩ = some v) ∧ Below w.heap.size w W ∧ Nms W ∧ Pts W (.slice pa pn pc) ops) := Lib.hid fun W hb => by
    have hw := BX.out.1.trans (hb.mono BX.out.1.size)
    refine ⟨fun j v hv => ?_, fun j v hv => ?_, hw, HN.out.below hw, H.out.below hw⟩
    · have q : w2.cell? ⟨w.heap.size, j, none⟩ = some v := by rw [e2]; exact cell_al (by rw [World.cell?_alloc_new]; exact hv) _
      exact (hb.cell (block_lt_of_cell q)).trans q
    · have q : w2.cell? ⟨w.heap.size + 1, j, none⟩ = some v := by
        have e : w.heap.size + 1 = (w.alloc (.cells #[.string op, .string on, .slice la ln lc, .int .i64 opr, .int .i64 odl, .slice pa pn pc, .int .i64 over] 25)).heap.size := by simp
        rw [e2, e, World.cell?_alloc_new]; exact hv
      exact (hb.cell (block_lt_of_cell q)).trans q
  have sz1 : (w.alloc (.cells #[.string op, .string on, .slice la ln lc, .int .i64 opr, .int .i64 odl, .slice pa pn pc, .int .i64 over] 25)).heap.size = w.heap.size + 1 := by simp
  rw [sz1]
  clear e2 KI B0 sz1
  go_wp2_with fail
  go_loopg [3, 9] 6 (fun g so si wr => ∃ (k : Nat) (a' : Option Addr) (m c : Nat), k ≤ 6 ∧ g = 6 - k ∧ si = .int .i64 k ∧ so = .slice a' m c ∧ OwnR kSc w2.heap.size wr (.slice a' m c) (accK ⟨op, on, ols, opr, odl, ops, over⟩ k) ∧ Below w2.heap.size w2 wr)
  case atStart => exact ⟨0, none, 0, 0, by omega, rfl, rfl, rfl, OwnR.nil _ _ _, Below.refl _ _⟩
  case round =>
    obtain ⟨k, a', m, c, hk, hg, rfl, rfl, ho, hb⟩ := hrel
    have R : Hid (gk = 6 - k ∧ OwnR kSc w2.heap.size wr (.slice a' m c) (accK ⟨op, on, ols, opr, odl, ops, over⟩ k) ∧ Below w2.heap.size w2 wr) := Lib.hid ⟨hg, ho, hb⟩
    clear hg ho hb
    by_cases hlt : k < 6
    · have kc : k = 0 ∨ k = 1 ∨ k = 2 ∨ k = 3 ∨ k = 4 ∨ k = 5 := by omega
      clear hk hlt
      rcases kc with rfl | rfl | rfl | rfl | rfl | rfl
      · have c0 : wr.cell? ⟨w.heap.size + 1, 0, none⟩ = some (.func (.func 67) #[] #[]) := (KC.out wr R.out.2.2).2.1 0 _ rfl
        have n0 : wr.cell? ⟨0, 1, none⟩ = some (.int .i64 1) := ((KC.out wr R.out.2.2).2.2.2.1 0 (by decide)).2
        have n1 := cell_al n0
        have hst := fun (W : World) (ad : Addr) (md : Mode) => run_store Tryz.prog W ad (.func (.func 67) #[] #[]) md rfl
        have BA : Hid (∀ q, Below w2.heap.size w2 (wr.alloc q)) := Lib.hid fun q => R.out.2.2.alloc R.out.2.2.size _
        go_wp2_with fail
        obtain ⟨Y, hY⟩ : ∃ Y, Y = wr.alloc (.cells #[.func (.func 67) #[] #[]] 88) := ⟨_, rfl⟩
        have YS : Hid (Below w2.heap.size w2 Y ∧ Y.heap[wr.heap.size]? = some (.cells #[.func (.func 67) #[] #[]] 88 (0, 0)) ∧ OwnR kSc w2.heap.size Y (.slice a' m c) (accK ⟨op, on, ols, opr, odl, ops, over⟩ 0) ∧ w2.heap.size ≤ Y.heap.size) := Lib.hid (by
          rw [hY]
          exact ⟨BA.out _, heap_alloc_new _ _, R.out.2.1.below ((below_alR wr).out _), (BA.out _).size⟩)
        rw [← hY]
        clear hY BA c0 n0 n1 hst
        obtain ⟨bk, hbk⟩ : ∃ bk, bk = wr.heap.size := ⟨_, rfl⟩
        rw [← hbk] at YS ⊢
        clear hbk
        go_loopg [3, 18] 1 (fun g so si wq => ∃ (j : Nat) (a' : Option Addr) (m c : Nat), j ≤ 1 ∧ g = 1 - j ∧ si = .int .i64 j ∧ so = .slice a' m c ∧ OwnR kSc w2.heap.size wq (.slice a' m c) (accK ⟨op, on, ols, opr, odl, ops, over⟩ 0 ++ enumA (hP ⟨op, on, ols, opr, odl, ops, over⟩) 0 0 j) ∧ Below w2.heap.size w2 wq ∧ wq.heap[bk]? = some (.cells #[.func (.func 67) #[] #[]] 88 (0, 0)))
        case atStart => exact ⟨0, a', m, c, by omega, rfl, rfl, rfl, by rw [enumA, List.append_nil]; exact YS.out.2.2.1, YS.out.1, YS.out.2.1⟩
        case round =>
          obtain ⟨j, a', m, c, hj, hg, rfl, rfl, ho, hb, f0⟩ := hrel
          have S : Hid (gk = 1 - j ∧ OwnR kSc w2.heap.size wr (.slice a' m c) (accK ⟨op, on, ols, opr, odl, ops, over⟩ 0 ++ enumA (hP ⟨op, on, ols, opr, odl, ops, over⟩) 0 0 j) ∧ Below w2.heap.size w2 wr ∧ wr.heap[bk]? = some (.cells #[.func (.func 67) #[] #[]] 88 (0, 0))) := Lib.hid ⟨hg, ho, hb, f0⟩
          have f1 : wr.cell? ⟨bk, 0, none⟩ = some (.func (.func 67) #[] #[]) := cell_of_row wr bk 0 _ _ _ f0
          clear hg ho hb f0
          by_cases hlj : j < 1
          · have hlj' : (j : Int) < 1 := by omega
            have q := (KC.out wr S.out.2.2.1)
            have z0 := q.1 0 _ rfl
            have z1 := q.1 1 _ rfl
            have z2 := q.1 2 _ rfl
            have z3 := q.1 3 _ rfl
            have z4 := q.1 4 _ rfl
            have z5 := q.1 5 _ rfl
            have z6 := q.1 6 _ rfl
            have HC := Lib.hid (hold_0 ⟨op, on, ols, opr, odl, ops, over⟩ la ln lc pa pn pc j wr q.2.2.2.2)
            unfold Ob.val at HC
            simp only at HC
            clear q
            go_wp2_with fail
            refine HC.out.mono ?_
            rintro e w3 ⟨rfl, hb3⟩
            have B3 : Hid (Below w2.heap.size w2 w3) := Lib.hid (S.out.2.2.1.trans (hb3.mono S.out.2.2.1.size))
            have O3 : Hid (OwnR kSc w2.heap.size w3 (.slice a' m c) (accK ⟨op, on, ols, opr, odl, ops, over⟩ 0 ++ enumA (hP ⟨op, on, ols, opr, odl, ops, over⟩) 0 0 j)) := Lib.hid (S.out.2.1.below hb3)
            have F3 : Hid (w3.heap[bk]? = some (.cells #[.func (.func 67) #[] #[]] 88 (0, 0))) := Lib.hid ((hb3.block bk (Array.getElem?_eq_some_iff.1 S.out.2.2.2).1).trans S.out.2.2.2)
            clear hb3 HC z0 z1 z2 z3 z4 z5 z6 f1
            obtain ⟨acc, hacc⟩ : ∃ acc, acc = accK ⟨op, on, ols, opr, odl, ops, over⟩ 0 ++ enumA (hP ⟨op, on, ols, opr, odl, ops, over⟩) 0 0 j := ⟨_, rfl⟩
            have N1 : Hid (true = true → accK ⟨op, on, ols, opr, odl, ops, over⟩ 0 ++ enumA (hP ⟨op, on, ols, opr, odl, ops, over⟩) 0 0 (j + 1) = acc ++ [(0, (j : Int))]) := Lib.hid (fun q => by rw [enumA, hacc, List.append_assoc, Int.zero_add, if_pos (show hP ⟨op, on, ols, opr, odl, ops, over⟩ 0 (j : Int) = true from q)])
            have LN : Hid ((acc.length + 1) * kSc.b ≤ 140737488355328) := Lib.hid (by
              rw [hacc, List.length_append]
              have h1 := acc_len ⟨op, on, ols, opr, odl, ops, over⟩ 0
              have h2 := enumA_len (hP ⟨op, on, ols, opr, odl, ops, over⟩) 0 0 j
              show (_ + 1) * 16 ≤ 140737488355328
              omega)
            rw [← hacc] at O3
            clear hacc
            have NX := Lib.hid (N1.out rfl)
            clear N1
            go_wp2_with (at_builtin; refine app_rowB okSc (gg := w3.heap.size) rfl _ _ rfl rfl O3.out B3.out.size (0, (j : Int)) (by simp) rfl rfl LN.out ?_; intro v' w' h1 h2)
            obtain ⟨a2, c2, rfl⟩ := h1.slice
            have A : Hid (OwnR kSc w2.heap.size w' (.slice a2 (acc ++ [(0, (j : Int))]).length c2) (accK ⟨op, on, ols, opr, odl, ops, over⟩ 0 ++ enumA (hP ⟨op, on, ols, opr, odl, ops, over⟩) 0 0 (j + 1)) ∧ Below w2.heap.size w2 w' ∧ w'.heap[bk]? = some (.cells #[.func (.func 67) #[] #[]] 88 (0, 0))) := Lib.hid ⟨by rw [NX.out]; exact h1, B3.out.trans (grown_belowR h2 O3.out B3.out.size), (h2.block bk (Array.getElem?_eq_some_iff.1 F3.out).1 (fun e => by
              obtain ⟨cs, mk, h⟩ := O3.out.ty bk e.symm
              rw [F3.out] at h
              simp only [Option.some.injEq, Obj.cells.injEq] at h
              exact absurd h.2.1 (by decide))).trans F3.out⟩
            clear h1 h2
            go_wp2_with fail
            go_roundg (1 - (j + 1))
            case measure => have := S.out.1; omega
            case rel => exact ⟨j + 1, a2, _, c2, by omega, rfl, by go_num, rfl, A.out.1, A.out.2.1, A.out.2.2⟩
          · have ej : j = 1 := by omega
            subst ej
            have ge : decide (((1 : Nat) : Int) < 1) = false := by decide
            go_wp2_with fail
            go_roundg (6 - 1)
            case measure => have := R.out.1; omega
            case rel => exact ⟨1, a', m, c, by omega, rfl, by go_num, rfl, S.out.2.1, S.out.2.2.1⟩
      · have c0 : wr.cell? ⟨w.heap.size + 1, 1, none⟩ = some (.func (.func 68) #[] #[]) := (KC.out wr R.out.2.2).2.1 1 _ rfl
        have n0 : wr.cell? ⟨0, 3, none⟩ = some (.int .i64 1) := ((KC.out wr R.out.2.2).2.2.2.1 1 (by decide)).2
        have n1 := cell_al n0
        have hst := fun (W : World) (ad : Addr) (md : Mode) => run_store Tryz.prog W ad (.func (.func 68) #[] #[]) md rfl
        have BA : Hid (∀ q, Below w2.heap.size w2 (wr.alloc q)) := Lib.hid fun q => R.out.2.2.alloc R.out.2.2.size _
        go_wp2_with fail
        obtain ⟨Y, hY⟩ : ∃ Y, Y = wr.alloc (.cells #[.func (.func 68) #[] #[]] 88) := ⟨_, rfl⟩
        have YS : Hid (Below w2.heap.size w2 Y ∧ Y.heap[wr.heap.size]? = some (.cells #[.func (.func 68) #[] #[]] 88 (0, 0)) ∧ OwnR kSc w2.heap.size Y (.slice a' m c) (accK ⟨op, on, ols, opr, odl, ops, over⟩ 1) ∧ w2.heap.size ≤ Y.heap.size) := Lib.hid (by
          rw [hY]
          exact ⟨BA.out _, heap_alloc_new _ _, R.out.2.1.below ((below_alR wr).out _), (BA.out _).size⟩)
        rw [← hY]
        clear hY BA c0 n0 n1 hst
        obtain ⟨bk, hbk⟩ : ∃ bk, bk = wr.heap.size := ⟨_, rfl⟩
        rw [← hbk] at YS ⊢
        clear hbk
        go_loopg [3, 18] 1 (fun g so si wq => ∃ (j : Nat) (a' : Option Addr) (m c : Nat), j ≤ 1 ∧ g = 1 - j ∧ si = .int .i64 j ∧ so = .slice a' m c ∧ OwnR kSc w2.heap.size wq (.slice a' m c) (accK ⟨op, on, ols, opr, odl, ops, over⟩ 1 ++ enumA (hP ⟨op, on, ols, opr, odl, ops, over⟩) 1 0 j) ∧ Below w2.heap.size w2 wq ∧ wq.heap[bk]? = some (.cells #[.func (.func 68) #[] #[]] 88 (0, 0)))
        case atStart => exact ⟨0, a', m, c, by omega, rfl, rfl, rfl, by rw [enumA, List.append_nil]; exact YS.out.2.2.1, YS.out.1, YS.out.2.1⟩
        case round =>
          obtain ⟨j, a', m, c, hj, hg, rfl, rfl, ho, hb, f0⟩ := hrel
          have S : Hid (gk = 1 - j ∧ OwnR kSc w2.heap.size wr (.slice a' m c) (accK ⟨op, on, ols, opr, odl, ops, over⟩ 1 ++ enumA (hP ⟨op, on, ols, opr, odl, ops, over⟩) 1 0 j) ∧ Below w2.heap.size w2 wr ∧ wr.heap[bk]? = some (.cells #[.func (.func 68) #[] #[]] 88 (0, 0))) := Lib.hid ⟨hg, ho, hb, f0⟩
          have f1 : wr.cell? ⟨bk, 0, none⟩ = some (.func (.func 68) #[] #[]) := cell_of_row wr bk 0 _ _ _ f0
          clear hg ho hb f0
          by_cases hlj : j < 1
          · have hlj' : (j : Int) < 1 := by omega
            have q := (KC.out wr S.out.2.2.1)
            have z0 := q.1 0 _ rfl
            have z1 := q.1 1 _ rfl
            have z2 := q.1 2 _ rfl
            have z3 := q.1 3 _ rfl
            have z4 := q.1 4 _ rfl
            have z5 := q.1 5 _ rfl
            have z6 := q.1 6 _ rfl
            have HC := Lib.hid (hold_1 ⟨op, on, ols, opr, odl, ops, over⟩ la ln lc pa pn pc j wr q.2.2.2.2)
            unfold Ob.val at HC
            simp only at HC
            clear q
            go_wp2_with fail
            refine HC.out.mono ?_
            rintro e w3 ⟨rfl, hb3⟩
            have B3 : Hid (Below w2.heap.size w2 w3) := Lib.hid (S.out.2.2.1.trans (hb3.mono S.out.2.2.1.size))
            have O3 : Hid (OwnR kSc w2.heap.size w3 (.slice a' m c) (accK ⟨op, on, ols, opr, odl, ops, over⟩ 1 ++ enumA (hP ⟨op, on, ols, opr, odl, ops, over⟩) 1 0 j)) := Lib.hid (S.out.2.1.below hb3)
            have F3 : Hid (w3.heap[bk]? = some (.cells #[.func (.func 68) #[] #[]] 88 (0, 0))) := Lib.hid ((hb3.block bk (Array.getElem?_eq_some_iff.1 S.out.2.2.2).1).trans S.out.2.2.2)
            clear hb3 HC z0 z1 z2 z3 z4 z5 z6 f1
            obtain ⟨acc, hacc⟩ : ∃ acc, acc = accK ⟨op, on, ols, opr, odl, ops, over⟩ 1 ++ enumA (hP ⟨op, on, ols, opr, odl, ops, over⟩) 1 0 j := ⟨_, rfl⟩
            have N1 : Hid ((!onamB ops) = true → accK ⟨op, on, ols, opr, odl, ops, over⟩ 1 ++ enumA (hP ⟨op, on, ols, opr, odl, ops, over⟩) 1 0 (j + 1) = acc ++ [(1, (j : Int))]) := Lib.hid (fun q => by rw [enumA, hacc, List.append_assoc, Int.zero_add, if_pos (show hP ⟨op, on, ols, opr, odl, ops, over⟩ 1 (j : Int) = true from q)])
            have N0 : Hid ((!onamB ops) = false → accK ⟨op, on, ols, opr, odl, ops, over⟩ 1 ++ enumA (hP ⟨op, on, ols, opr, odl, ops, over⟩) 1 0 (j + 1) = acc) := Lib.hid (fun q => by rw [enumA, hacc, Int.zero_add, if_neg (show ¬ hP ⟨op, on, ols, opr, odl, ops, over⟩ 1 (j : Int) = true from fun t => absurd (show (!onamB ops) = true from t) (by rw [q]; decide)), List.append_nil])
            have LN : Hid ((acc.length + 1) * kSc.b ≤ 140737488355328) := Lib.hid (by
              rw [hacc, List.length_append]
              have h1 := acc_len ⟨op, on, ols, opr, odl, ops, over⟩ 1
              have h2 := enumA_len (hP ⟨op, on, ols, opr, odl, ops, over⟩) 1 0 j
              show (_ + 1) * 16 ≤ 140737488355328
              omega)
            rw [← hacc] at O3
            clear hacc
            cases hv : (!onamB ops) with
            | true =>
              have NX := Lib.hid (N1.out hv)
              clear hv N1 N0
              go_wp2_with (at_builtin; refine app_rowB okSc (gg := w3.heap.size) rfl _ _ rfl rfl O3.out B3.out.size (1, (j : Int)) (by simp) rfl rfl LN.out ?_; intro v' w' h1 h2)
              obtain ⟨a2, c2, rfl⟩ := h1.slice
              have A : Hid (OwnR kSc w2.heap.size w' (.slice a2 (acc ++ [(1, (j : Int))]).length c2) (accK ⟨op, on, ols, opr, odl, ops, over⟩ 1 ++ enumA (hP ⟨op, on, ols, opr, odl, ops, over⟩) 1 0 (j + 1)) ∧ Below w2.heap.size w2 w' ∧ w'.heap[bk]? = some (.cells #[.func (.func 68) #[] #[]] 88 (0, 0))) := Lib.hid ⟨by rw [NX.out]; exact h1, B3.out.trans (grown_belowR h2 O3.out B3.out.size), (h2.block bk (Array.getElem?_eq_some_iff.1 F3.out).1 (fun e => by
                obtain ⟨cs, mk, h⟩ := O3.out.ty bk e.symm
                rw [F3.out] at h
                simp only [Option.some.injEq, Obj.cells.injEq] at h
                exact absurd h.2.1 (by decide))).trans F3.out⟩
              clear h1 h2
              go_wp2_with fail
              go_roundg (1 - (j + 1))
              case measure => have := S.out.1; omega
              case rel => exact ⟨j + 1, a2, _, c2, by omega, rfl, by go_num, rfl, A.out.1, A.out.2.1, A.out.2.2⟩
            | false =>
              have NX := Lib.hid (N0.out hv)
              clear hv N1 N0
              go_wp2_with fail
              go_roundg (1 - (j + 1))
              case measure => have := S.out.1; omega
              case rel => exact ⟨j + 1, a', _, c, by omega, rfl, by go_num, rfl, by rw [NX.out]; exact O3.out, B3.out, F3.out⟩
          · have ej : j = 1 := by omega
            subst ej
            have ge : decide (((1 : Nat) : Int) < 1) = false := by decide
            go_wp2_with fail
            go_roundg (6 - 2)
            case measure => have := R.out.1; omega
            case rel => exact ⟨2, a', m, c, by omega, rfl, by go_num, rfl, S.out.2.1, S.out.2.2.1⟩
      · have c0 : wr.cell? ⟨w.heap.size + 1, 2, none⟩ = some (.func (.func 70) #[] #[]) := (KC.out wr R.out.2.2).2.1 2 _ rfl
        have n0 : wr.cell? ⟨0, 5, none⟩ = some (.int .i64 1) := ((KC.out wr R.out.2.2).2.2.2.1 2 (by decide)).2
        have n1 := cell_al n0
        have hst := fun (W : World) (ad : Addr) (md : Mode) => run_store Tryz.prog W ad (.func (.func 70) #[] #[]) md rfl
        have BA : Hid (∀ q, Below w2.heap.size w2 (wr.alloc q)) := Lib.hid fun q => R.out.2.2.alloc R.out.2.2.size _
        go_wp2_with fail
        obtain ⟨Y, hY⟩ : ∃ Y, Y = wr.alloc (.cells #[.func (.func 70) #[] #[]] 88) := ⟨_, rfl⟩
        have YS : Hid (Below w2.heap.size w2 Y ∧ Y.heap[wr.heap.size]? = some (.cells #[.func (.func 70) #[] #[]] 88 (0, 0)) ∧ OwnR kSc w2.heap.size Y (.slice a' m c) (accK ⟨op, on, ols, opr, odl, ops, over⟩ 2) ∧ w2.heap.size ≤ Y.heap.size) := Lib.hid (by
          rw [hY]
          exact ⟨BA.out _, heap_alloc_new _ _, R.out.2.1.below ((below_alR wr).out _), (BA.out _).size⟩)
        rw [← hY]
        clear hY BA c0 n0 n1 hst
        obtain ⟨bk, hbk⟩ : ∃ bk, bk = wr.heap.size := ⟨_, rfl⟩
        rw [← hbk] at YS ⊢
        clear hbk
        go_loopg [3, 18] 1 (fun g so si wq => ∃ (j : Nat) (a' : Option Addr) (m c : Nat), j ≤ 1 ∧ g = 1 - j ∧ si = .int .i64 j ∧ so = .slice a' m c ∧ OwnR kSc w2.heap.size wq (.slice a' m c) (accK ⟨op, on, ols, opr, odl, ops, over⟩ 2 ++ enumA (hP ⟨op, on, ols, opr, odl, ops, over⟩) 2 0 j) ∧ Below w2.heap.size w2 wq ∧ wq.heap[bk]? = some (.cells #[.func (.func 70) #[] #[]] 88 (0, 0)))
        case atStart => exact ⟨0, a', m, c, by omega, rfl, rfl, rfl, by rw [enumA, List.append_nil]; exact YS.out.2.2.1, YS.out.1, YS.out.2.1⟩
        case round =>
          obtain ⟨j, a', m, c, hj, hg, rfl, rfl, ho, hb, f0⟩ := hrel
          have S : Hid (gk = 1 - j ∧ OwnR kSc w2.heap.size wr (.slice a' m c) (accK ⟨op, on, ols, opr, odl, ops, over⟩ 2 ++ enumA (hP ⟨op, on, ols, opr, odl, ops, over⟩) 2 0 j) ∧ Below w2.heap.size w2 wr ∧ wr.heap[bk]? = some (.cells #[.func (.func 70) #[] #[]] 88 (0, 0))) := Lib.hid ⟨hg, ho, hb, f0⟩
          have f1 : wr.cell? ⟨bk, 0, none⟩ = some (.func (.func 70) #[] #[]) := cell_of_row wr bk 0 _ _ _ f0
          clear hg ho hb f0
          by_cases hlj : j < 1
          · have hlj' : (j : Int) < 1 := by omega
            have q := (KC.out wr S.out.2.2.1)
            have z0 := q.1 0 _ rfl
            have z1 := q.1 1 _ rfl
            have z2 := q.1 2 _ rfl
            have z3 := q.1 3 _ rfl
            have z4 := q.1 4 _ rfl
            have z5 := q.1 5 _ rfl
            have z6 := q.1 6 _ rfl
            have HC := Lib.hid (hold_2 ⟨op, on, ols, opr, odl, ops, over⟩ la ln lc pa pn pc j wr q.2.2.2.2)
            unfold Ob.val at HC
            simp only at HC
            clear q
            go_wp2_with fail
            refine HC.out.mono ?_
            rintro e w3 ⟨rfl, hb3⟩
            have B3 : Hid (Below w2.heap.size w2 w3) := Lib.hid (S.out.2.2.1.trans (hb3.mono S.out.2.2.1.size))
            have O3 : Hid (OwnR kSc w2.heap.size w3 (.slice a' m c) (accK ⟨op, on, ols, opr, odl, ops, over⟩ 2 ++ enumA (hP ⟨op, on, ols, opr, odl, ops, over⟩) 2 0 j)) := Lib.hid (S.out.2.1.below hb3)
            have F3 : Hid (w3.heap[bk]? = some (.cells #[.func (.func 70) #[] #[]] 88 (0, 0))) := Lib.hid ((hb3.block bk (Array.getElem?_eq_some_iff.1 S.out.2.2.2).1).trans S.out.2.2.2)
            clear hb3 HC z0 z1 z2 z3 z4 z5 z6 f1
            obtain ⟨acc, hacc⟩ : ∃ acc, acc = accK ⟨op, on, ols, opr, odl, ops, over⟩ 2 ++ enumA (hP ⟨op, on, ols, opr, odl, ops, over⟩) 2 0 j := ⟨_, rfl⟩
            have N1 : Hid ((onamB ops) = true → accK ⟨op, on, ols, opr, odl, ops, over⟩ 2 ++ enumA (hP ⟨op, on, ols, opr, odl, ops, over⟩) 2 0 (j + 1) = acc ++ [(2, (j : Int))]) := Lib.hid (fun q => by rw [enumA, hacc, List.append_assoc, Int.zero_add, if_pos (show hP ⟨op, on, ols, opr, odl, ops, over⟩ 2 (j : Int) = true from q)])
            have N0 : Hid ((onamB ops) = false → accK ⟨op, on, ols, opr, odl, ops, over⟩ 2 ++ enumA (hP ⟨op, on, ols, opr, odl, ops, over⟩) 2 0 (j + 1) = acc) := Lib.hid (fun q => by rw [enumA, hacc, Int.zero_add, if_neg (show ¬ hP ⟨op, on, ols, opr, odl, ops, over⟩ 2 (j : Int) = true from fun t => absurd (show (onamB ops) = true from t) (by rw [q]; decide)), List.append_nil])
            have LN : Hid ((acc.length + 1) * kSc.b ≤ 140737488355328) := Lib.hid (by
              rw [hacc, List.length_append]
              have h1 := acc_len ⟨op, on, ols, opr, odl, ops, over⟩ 2
              have h2 := enumA_len (hP ⟨op, on, ols, opr, odl, ops, over⟩) 2 0 j
              show (_ + 1) * 16 ≤ 140737488355328
              omega)
            rw [← hacc] at O3
            clear hacc
            cases hv : (onamB ops) with
            | true =>
              have NX := Lib.hid (N1.out hv)
              clear hv N1 N0
              go_wp2_with (at_builtin; refine app_rowB okSc (gg := w3.heap.size) rfl _ _ rfl rfl O3.out B3.out.size (2, (j : Int)) (by simp) rfl rfl LN.out ?_; intro v' w' h1 h2)
              obtain ⟨a2, c2, rfl⟩ := h1.slice
              have A : Hid (OwnR kSc w2.heap.size w' (.slice a2 (acc ++ [(2, (j : Int))]).length c2) (accK ⟨op, on, ols, opr, odl, ops, over⟩ 2 ++ enumA (hP ⟨op, on, ols, opr, odl, ops, over⟩) 2 0 (j + 1)) ∧ Below w2.heap.size w2 w' ∧ w'.heap[bk]? = some (.cells #[.func (.func 70) #[] #[]] 88 (0, 0))) := Lib.hid ⟨by rw [NX.out]; exact h1, B3.out.trans (grown_belowR h2 O3.out B3.out.size), (h2.block bk (Array.getElem?_eq_some_iff.1 F3.out).1 (fun e => by
                obtain ⟨cs, mk, h⟩ := O3.out.ty bk e.symm
                rw [F3.out] at h
                simp only [Option.some.injEq, Obj.cells.injEq] at h
                exact absurd h.2.1 (by decide))).trans F3.out⟩
              clear h1 h2
              go_wp2_with fail
              go_roundg (1 - (j + 1))
              case measure => have := S.out.1; omega
              case rel => exact ⟨j + 1, a2, _, c2, by omega, rfl, by go_num, rfl, A.out.1, A.out.2.1, A.out.2.2⟩
            | false =>
              have NX := Lib.hid (N0.out hv)
              clear hv N1 N0
              go_wp2_with fail
              go_roundg (1 - (j + 1))
              case measure => have := S.out.1; omega
              case rel => exact ⟨j + 1, a', _, c, by omega, rfl, by go_num, rfl, by rw [NX.out]; exact O3.out, B3.out, F3.out⟩
          · have ej : j = 1 := by omega
            subst ej
            have ge : decide (((1 : Nat) : Int) < 1) = false := by decide
            go_wp2_with fail
            go_roundg (6 - 3)
            case measure => have := R.out.1; omega
            case rel => exact ⟨3, a', m, c, by omega, rfl, by go_num, rfl, S.out.2.1, S.out.2.2.1⟩
      · have c0 : wr.cell? ⟨w.heap.size + 1, 3, none⟩ = some (.func (.func 71) #[] #[]) := (KC.out wr R.out.2.2).2.1 3 _ rfl
        have n0 : wr.cell? ⟨0, 7, none⟩ = some (.int .i64 1) := ((KC.out wr R.out.2.2).2.2.2.1 3 (by decide)).2
        have n1 := cell_al n0
        have hst := fun (W : World) (ad : Addr) (md : Mode) => run_store Tryz.prog W ad (.func (.func 71) #[] #[]) md rfl
        have BA : Hid (∀ q, Below w2.heap.size w2 (wr.alloc q)) := Lib.hid fun q => R.out.2.2.alloc R.out.2.2.size _
        go_wp2_with fail
        obtain ⟨Y, hY⟩ : ∃ Y, Y = wr.alloc (.cells #[.func (.func 71) #[] #[]] 88) := ⟨_, rfl⟩
        have YS : Hid (Below w2.heap.size w2 Y ∧ Y.heap[wr.heap.size]? = some (.cells #[.func (.func 71) #[] #[]] 88 (0, 0)) ∧ OwnR kSc w2.heap.size Y (.slice a' m c) (accK ⟨op, on, ols, opr, odl, ops, over⟩ 3) ∧ w2.heap.size ≤ Y.heap.size) := Lib.hid (by
          rw [hY]
          exact ⟨BA.out _, heap_alloc_new _ _, R.out.2.1.below ((below_alR wr).out _), (BA.out _).size⟩)
        rw [← hY]
        clear hY BA c0 n0 n1 hst
        obtain ⟨bk, hbk⟩ : ∃ bk, bk = wr.heap.size := ⟨_, rfl⟩
        rw [← hbk] at YS ⊢
        clear hbk
        go_loopg [3, 18] 1 (fun g so si wq => ∃ (j : Nat) (a' : Option Addr) (m c : Nat), j ≤ 1 ∧ g = 1 - j ∧ si = .int .i64 j ∧ so = .slice a' m c ∧ OwnR kSc w2.heap.size wq (.slice a' m c) (accK ⟨op, on, ols, opr, odl, ops, over⟩ 3 ++ enumA (hP ⟨op, on, ols, opr, odl, ops, over⟩) 3 0 j) ∧ Below w2.heap.size w2 wq ∧ wq.heap[bk]? = some (.cells #[.func (.func 71) #[] #[]] 88 (0, 0)))
        case atStart => exact ⟨0, a', m, c, by omega, rfl, rfl, rfl, by rw [enumA, List.append_nil]; exact YS.out.2.2.1, YS.out.1, YS.out.2.1⟩
        case round =>
          obtain ⟨j, a', m, c, hj, hg, rfl, rfl, ho, hb, f0⟩ := hrel
          have S : Hid (gk = 1 - j ∧ OwnR kSc w2.heap.size wr (.slice a' m c) (accK ⟨op, on, ols, opr, odl, ops, over⟩ 3 ++ enumA (hP ⟨op, on, ols, opr, odl, ops, over⟩) 3 0 j) ∧ Below w2.heap.size w2 wr ∧ wr.heap[bk]? = some (.cells #[.func (.func 71) #[] #[]] 88 (0, 0))) := Lib.hid ⟨hg, ho, hb, f0⟩
          have f1 : wr.cell? ⟨bk, 0, none⟩ = some (.func (.func 71) #[] #[]) := cell_of_row wr bk 0 _ _ _ f0
          clear hg ho hb f0
          by_cases hlj : j < 1
          · have hlj' : (j : Int) < 1 := by omega
            have q := (KC.out wr S.out.2.2.1)
            have z0 := q.1 0 _ rfl
            have z1 := q.1 1 _ rfl
            have z2 := q.1 2 _ rfl
            have z3 := q.1 3 _ rfl
            have z4 := q.1 4 _ rfl
            have z5 := q.1 5 _ rfl
            have z6 := q.1 6 _ rfl
            have HC := Lib.hid (hold_3 ⟨op, on, ols, opr, odl, ops, over⟩ la ln lc pa pn pc j wr q.2.2.2.2)
            unfold Ob.val at HC
            simp only at HC
            clear q
            go_wp2_with fail
            refine HC.out.mono ?_
            rintro e w3 ⟨rfl, hb3⟩
            have B3 : Hid (Below w2.heap.size w2 w3) := Lib.hid (S.out.2.2.1.trans (hb3.mono S.out.2.2.1.size))
            have O3 : Hid (OwnR kSc w2.heap.size w3 (.slice a' m c) (accK ⟨op, on, ols, opr, odl, ops, over⟩ 3 ++ enumA (hP ⟨op, on, ols, opr, odl, ops, over⟩) 3 0 j)) := Lib.hid (S.out.2.1.below hb3)
            have F3 : Hid (w3.heap[bk]? = some (.cells #[.func (.func 71) #[] #[]] 88 (0, 0))) := Lib.hid ((hb3.block bk (Array.getElem?_eq_some_iff.1 S.out.2.2.2).1).trans S.out.2.2.2)
            clear hb3 HC z0 z1 z2 z3 z4 z5 z6 f1
            obtain ⟨acc, hacc⟩ : ∃ acc, acc = accK ⟨op, on, ols, opr, odl, ops, over⟩ 3 ++ enumA (hP ⟨op, on, ols, opr, odl, ops, over⟩) 3 0 j := ⟨_, rfl⟩
            have N1 : Hid ((decide (0 < odl)) = true → accK ⟨op, on, ols, opr, odl, ops, over⟩ 3 ++ enumA (hP ⟨op, on, ols, opr, odl, ops, over⟩) 3 0 (j + 1) = acc ++ [(3, (j : Int))]) := Lib.hid (fun q => by rw [enumA, hacc, List.append_assoc, Int.zero_add, if_pos (show hP ⟨op, on, ols, opr, odl, ops, over⟩ 3 (j : Int) = true from q)])
            have N0 : Hid ((decide (0 < odl)) = false → accK ⟨op, on, ols, opr, odl, ops, over⟩ 3 ++ enumA (hP ⟨op, on, ols, opr, odl, ops, over⟩) 3 0 (j + 1) = acc) := Lib.hid (fun q => by rw [enumA, hacc, Int.zero_add, if_neg (show ¬ hP ⟨op, on, ols, opr, odl, ops, over⟩ 3 (j : Int) = true from fun t => absurd (show (decide (0 < odl)) = true from t) (by rw [q]; decide)), List.append_nil])
            have LN : Hid ((acc.length + 1) * kSc.b ≤ 140737488355328) := Lib.hid (by
              rw [hacc, List.length_append]
              have h1 := acc_len ⟨op, on, ols, opr, odl, ops, over⟩ 3
              have h2 := enumA_len (hP ⟨op, on, ols, opr, odl, ops, over⟩) 3 0 j
              show (_ + 1) * 16 ≤ 140737488355328
              omega)
            rw [← hacc] at O3
            clear hacc
            cases hv : (decide (0 < odl)) with
            | true =>
              have NX := Lib.hid (N1.out hv)
              clear hv N1 N0
              go_wp2_with (at_builtin; refine app_rowB okSc (gg := w3.heap.size) rfl _ _ rfl rfl O3.out B3.out.size (3, (j : Int)) (by simp) rfl rfl LN.out ?_; intro v' w' h1 h2)
              obtain ⟨a2, c2, rfl⟩ := h1.slice
              have A : Hid (OwnR kSc w2.heap.size w' (.slice a2 (acc ++ [(3, (j : Int))]).length c2) (accK ⟨op, on, ols, opr, odl, ops, over⟩ 3 ++ enumA (hP ⟨op, on, ols, opr, odl, ops, over⟩) 3 0 (j + 1)) ∧ Below w2.heap.size w2 w' ∧ w'.heap[bk]? = some (.cells #[.func (.func 71) #[] #[]] 88 (0, 0))) := Lib.hid ⟨by rw [NX.out]; exact h1, B3.out.trans (grown_belowR h2 O3.out B3.out.size), (h2.block bk (Array.getElem?_eq_some_iff.1 F3.out).1 (fun e => by
                obtain ⟨cs, mk, h⟩ := O3.out.ty bk e.symm
                rw [F3.out] at h
                simp only [Option.some.injEq, Obj.cells.injEq] at h
                exact absurd h.2.1 (by decide))).trans F3.out⟩
              clear h1 h2
              go_wp2_with fail
              go_roundg (1 - (j + 1))
              case measure => have := S.out.1; omega
              case rel => exact ⟨j + 1, a2, _, c2, by omega, rfl, by go_num, rfl, A.out.1, A.out.2.1, A.out.2.2⟩
            | false =>
              have NX := Lib.hid (N0.out hv)
              clear hv N1 N0
              go_wp2_with fail
              go_roundg (1 - (j + 1))
              case measure => have := S.out.1; omega
              case rel => exact ⟨j + 1, a', _, c, by omega, rfl, by go_num, rfl, by rw [NX.out]; exact O3.out, B3.out, F3.out⟩
          · have ej : j = 1 := by omega
            subst ej
            have ge : decide (((1 : Nat) : Int) < 1) = false := by decide
            go_wp2_with fail
            go_roundg (6 - 4)
            case measure => have := R.out.1; omega
            case rel => exact ⟨4, a', m, c, by omega, rfl, by go_num, rfl, S.out.2.1, S.out.2.2.1⟩
      · have c0 : wr.cell? ⟨w.heap.size + 1, 4, none⟩ = some (.func (.func 72) #[] #[]) := (KC.out wr R.out.2.2).2.1 4 _ rfl
        have n0 : wr.cell? ⟨0, 9, none⟩ = some (.int .i64 1) := ((KC.out wr R.out.2.2).2.2.2.1 4 (by decide)).2
        have n1 := cell_al n0
        have hst := fun (W : World) (ad : Addr) (md : Mode) => run_store Tryz.prog W ad (.func (.func 72) #[] #[]) md rfl
        have BA : Hid (∀ q, Below w2.heap.size w2 (wr.alloc q)) := Lib.hid fun q => R.out.2.2.alloc R.out.2.2.size _
        go_wp2_with fail
        obtain ⟨Y, hY⟩ : ∃ Y, Y = wr.alloc (.cells #[.func (.func 72) #[] #[]] 88) := ⟨_, rfl⟩
        have YS : Hid (Below w2.heap.size w2 Y ∧ Y.heap[wr.heap.size]? = some (.cells #[.func (.func 72) #[] #[]] 88 (0, 0)) ∧ OwnR kSc w2.heap.size Y (.slice a' m c) (accK ⟨op, on, ols, opr, odl, ops, over⟩ 4) ∧ w2.heap.size ≤ Y.heap.size) := Lib.hid (by
          rw [hY]
          exact ⟨BA.out _, heap_alloc_new _ _, R.out.2.1.below ((below_alR wr).out _), (BA.out _).size⟩)
        rw [← hY]
        clear hY BA c0 n0 n1 hst
        obtain ⟨bk, hbk⟩ : ∃ bk, bk = wr.heap.size := ⟨_, rfl⟩
        rw [← hbk] at YS ⊢
        clear hbk
        go_loopg [3, 18] 1 (fun g so si wq => ∃ (j : Nat) (a' : Option Addr) (m c : Nat), j ≤ 1 ∧ g = 1 - j ∧ si = .int .i64 j ∧ so = .slice a' m c ∧ OwnR kSc w2.heap.size wq (.slice a' m c) (accK ⟨op, on, ols, opr, odl, ops, over⟩ 4 ++ enumA (hP ⟨op, on, ols, opr, odl, ops, over⟩) 4 0 j) ∧ Below w2.heap.size w2 wq ∧ wq.heap[bk]? = some (.cells #[.func (.func 72) #[] #[]] 88 (0, 0)))
        case atStart => exact ⟨0, a', m, c, by omega, rfl, rfl, rfl, by rw [enumA, List.append_nil]; exact YS.out.2.2.1, YS.out.1, YS.out.2.1⟩
        case round =>
          obtain ⟨j, a', m, c, hj, hg, rfl, rfl, ho, hb, f0⟩ := hrel
          have S : Hid (gk = 1 - j ∧ OwnR kSc w2.heap.size wr (.slice a' m c) (accK ⟨op, on, ols, opr, odl, ops, over⟩ 4 ++ enumA (hP ⟨op, on, ols, opr, odl, ops, over⟩) 4 0 j) ∧ Below w2.heap.size w2 wr ∧ wr.heap[bk]? = some (.cells #[.func (.func 72) #[] #[]] 88 (0, 0))) := Lib.hid ⟨hg, ho, hb, f0⟩
          have f1 : wr.cell? ⟨bk, 0, none⟩ = some (.func (.func 72) #[] #[]) := cell_of_row wr bk 0 _ _ _ f0
          clear hg ho hb f0
          by_cases hlj : j < 1
          · have hlj' : (j : Int) < 1 := by omega
            have q := (KC.out wr S.out.2.2.1)
            have z0 := q.1 0 _ rfl
            have z1 := q.1 1 _ rfl
            have z2 := q.1 2 _ rfl
            have z3 := q.1 3 _ rfl
            have z4 := q.1 4 _ rfl
            have z5 := q.1 5 _ rfl
            have z6 := q.1 6 _ rfl
            have HC := Lib.hid (hold_4 ⟨op, on, ols, opr, odl, ops, over⟩ la ln lc pa pn pc j wr q.2.2.2.2)
            unfold Ob.val at HC
            simp only at HC
            clear q
            go_wp2_with fail
            refine HC.out.mono ?_
            rintro e w3 ⟨rfl, hb3⟩
            have B3 : Hid (Below w2.heap.size w2 w3) := Lib.hid (S.out.2.2.1.trans (hb3.mono S.out.2.2.1.size))
            have O3 : Hid (OwnR kSc w2.heap.size w3 (.slice a' m c) (accK ⟨op, on, ols, opr, odl, ops, over⟩ 4 ++ enumA (hP ⟨op, on, ols, opr, odl, ops, over⟩) 4 0 j)) := Lib.hid (S.out.2.1.below hb3)
            have F3 : Hid (w3.heap[bk]? = some (.cells #[.func (.func 72) #[] #[]] 88 (0, 0))) := Lib.hid ((hb3.block bk (Array.getElem?_eq_some_iff.1 S.out.2.2.2).1).trans S.out.2.2.2)
            clear hb3 HC z0 z1 z2 z3 z4 z5 z6 f1
            obtain ⟨acc, hacc⟩ : ∃ acc, acc = accK ⟨op, on, ols, opr, odl, ops, over⟩ 4 ++ enumA (hP ⟨op, on, ols, opr, odl, ops, over⟩) 4 0 j := ⟨_, rfl⟩
            have N1 : Hid ((decide (odl ≤ 0)) = true → accK ⟨op, on, ols, opr, odl, ops, over⟩ 4 ++ enumA (hP ⟨op, on, ols, opr, odl, ops, over⟩) 4 0 (j + 1) = acc ++ [(4, (j : Int))]) := Lib.hid (fun q => by rw [enumA, hacc, List.append_assoc, Int.zero_add, if_pos (show hP ⟨op, on, ols, opr, odl, ops, over⟩ 4 (j : Int) = true from q)])
            have N0 : Hid ((decide (odl ≤ 0)) = false → accK ⟨op, on, ols, opr, odl, ops, over⟩ 4 ++ enumA (hP ⟨op, on, ols, opr, odl, ops, over⟩) 4 0 (j + 1) = acc) := Lib.hid (fun q => by rw [enumA, hacc, Int.zero_add, if_neg (show ¬ hP ⟨op, on, ols, opr, odl, ops, over⟩ 4 (j : Int) = true from fun t => absurd (show (decide (odl ≤ 0)) = true from t) (by rw [q]; decide)), List.append_nil])
            have LN : Hid ((acc.length + 1) * kSc.b ≤ 140737488355328) := Lib.hid (by
              rw [hacc, List.length_append]
              have h1 := acc_len ⟨op, on, ols, opr, odl, ops, over⟩ 4
              have h2 := enumA_len (hP ⟨op, on, ols, opr, odl, ops, over⟩) 4 0 j
              show (_ + 1) * 16 ≤ 140737488355328
              omega)
            rw [← hacc] at O3
            clear hacc
            cases hv : (decide (odl ≤ 0)) with
            | true =>
              have NX := Lib.hid (N1.out hv)
              clear hv N1 N0
              go_wp2_with (at_builtin; refine app_rowB okSc (gg := w3.heap.size) rfl _ _ rfl rfl O3.out B3.out.size (4, (j : Int)) (by simp) rfl rfl LN.out ?_; intro v' w' h1 h2)
              obtain ⟨a2, c2, rfl⟩ := h1.slice
              have A : Hid (OwnR kSc w2.heap.size w' (.slice a2 (acc ++ [(4, (j : Int))]).length c2) (accK ⟨op, on, ols, opr, odl, ops, over⟩ 4 ++ enumA (hP ⟨op, on, ols, opr, odl, ops, over⟩) 4 0 (j + 1)) ∧ Below w2.heap.size w2 w' ∧ w'.heap[bk]? = some (.cells #[.func (.func 72) #[] #[]] 88 (0, 0))) := Lib.hid ⟨by rw [NX.out]; exact h1, B3.out.trans (grown_belowR h2 O3.out B3.out.size), (h2.block bk (Array.getElem?_eq_some_iff.1 F3.out).1 (fun e => by
                obtain ⟨cs, mk, h⟩ := O3.out.ty bk e.symm
                rw [F3.out] at h
                simp only [Option.some.injEq, Obj.cells.injEq] at h
                exact absurd h.2.1 (by decide))).trans F3.out⟩
              clear h1 h2
              go_wp2_with fail
              go_roundg (1 - (j + 1))
              case measure => have := S.out.1; omega
              case rel => exact ⟨j + 1, a2, _, c2, by omega, rfl, by go_num, rfl, A.out.1, A.out.2.1, A.out.2.2⟩
            | false =>
              have NX := Lib.hid (N0.out hv)
              clear hv N1 N0
              go_wp2_with fail
              go_roundg (1 - (j + 1))
              case measure => have := S.out.1; omega
              case rel => exact ⟨j + 1, a', _, c, by omega, rfl, by go_num, rfl, by rw [NX.out]; exact O3.out, B3.out, F3.out⟩
          · have ej : j = 1 := by omega
            subst ej
            have ge : decide (((1 : Nat) : Int) < 1) = false := by decide
            go_wp2_with fail
            go_roundg (6 - 5)
            case measure => have := R.out.1; omega
            case rel => exact ⟨5, a', m, c, by omega, rfl, by go_num, rfl, S.out.2.1, S.out.2.2.1⟩
      · have c0 : wr.cell? ⟨w.heap.size + 1, 5, none⟩ = some (.func (.func 73) #[] #[]) := (KC.out wr R.out.2.2).2.1 5 _ rfl
        have n0 : wr.cell? ⟨0, 11, none⟩ = some (.int .i64 10) := ((KC.out wr R.out.2.2).2.2.2.1 5 (by decide)).2
        have n1 := cell_al n0
        have hst := fun (W : World) (ad : Addr) (md : Mode) => run_store Tryz.prog W ad (.func (.func 73) #[] #[]) md rfl
        have BA : Hid (∀ q, Below w2.heap.size w2 (wr.alloc q)) := Lib.hid fun q => R.out.2.2.alloc R.out.2.2.size _
        go_wp2_with fail
        obtain ⟨Y, hY⟩ : ∃ Y, Y = wr.alloc (.cells #[.func (.func 73) #[] #[]] 88) := ⟨_, rfl⟩
        have YS : Hid (Below w2.heap.size w2 Y ∧ Y.heap[wr.heap.size]? = some (.cells #[.func (.func 73) #[] #[]] 88 (0, 0)) ∧ OwnR kSc w2.heap.size Y (.slice a' m c) (accK ⟨op, on, ols, opr, odl, ops, over⟩ 5) ∧ w2.heap.size ≤ Y.heap.size) := Lib.hid (by
          rw [hY]
          exact ⟨BA.out _, heap_alloc_new _ _, R.out.2.1.below ((below_alR wr).out _), (BA.out _).size⟩)
        rw [← hY]
        clear hY BA c0 n0 n1 hst
        obtain ⟨bk, hbk⟩ : ∃ bk, bk = wr.heap.size := ⟨_, rfl⟩
        rw [← hbk] at YS ⊢
        clear hbk
        go_loopg [3, 18] 10 (fun g so si wq => ∃ (j : Nat) (a' : Option Addr) (m c : Nat), j ≤ 10 ∧ g = 10 - j ∧ si = .int .i64 j ∧ so = .slice a' m c ∧ OwnR kSc w2.heap.size wq (.slice a' m c) (accK ⟨op, on, ols, opr, odl, ops, over⟩ 5 ++ enumA (hP ⟨op, on, ols, opr, odl, ops, over⟩) 5 0 j) ∧ Below w2.heap.size w2 wq ∧ wq.heap[bk]? = some (.cells #[.func (.func 73) #[] #[]] 88 (0, 0)))
        case atStart => exact ⟨0, a', m, c, by omega, rfl, rfl, rfl, by rw [enumA, List.append_nil]; exact YS.out.2.2.1, YS.out.1, YS.out.2.1⟩
        case round =>
          obtain ⟨j, a', m, c, hj, hg, rfl, rfl, ho, hb, f0⟩ := hrel
          have S : Hid (gk = 10 - j ∧ OwnR kSc w2.heap.size wr (.slice a' m c) (accK ⟨op, on, ols, opr, odl, ops, over⟩ 5 ++ enumA (hP ⟨op, on, ols, opr, odl, ops, over⟩) 5 0 j) ∧ Below w2.heap.size w2 wr ∧ wr.heap[bk]? = some (.cells #[.func (.func 73) #[] #[]] 88 (0, 0))) := Lib.hid ⟨hg, ho, hb, f0⟩
          have f1 : wr.cell? ⟨bk, 0, none⟩ = some (.func (.func 73) #[] #[]) := cell_of_row wr bk 0 _ _ _ f0
          clear hg ho hb f0
          by_cases hlj : j < 10
          · have hlj' : (j : Int) < 10 := by omega
            have q := (KC.out wr S.out.2.2.1)
            have z0 := q.1 0 _ rfl
            have z1 := q.1 1 _ rfl
            have z2 := q.1 2 _ rfl
            have z3 := q.1 3 _ rfl
            have z4 := q.1 4 _ rfl
            have z5 := q.1 5 _ rfl
            have z6 := q.1 6 _ rfl
            have HC := Lib.hid (hold_5 ⟨op, on, ols, opr, odl, ops, over⟩ la ln lc pa pn pc j wr q.2.2.2.2)
            unfold Ob.val at HC
            simp only at HC
            clear q
            go_wp2_with fail
            refine HC.out.mono ?_
            rintro e w3 ⟨rfl, hb3⟩
            have B3 : Hid (Below w2.heap.size w2 w3) := Lib.hid (S.out.2.2.1.trans (hb3.mono S.out.2.2.1.size))
            have O3 : Hid (OwnR kSc w2.heap.size w3 (.slice a' m c) (accK ⟨op, on, ols, opr, odl, ops, over⟩ 5 ++ enumA (hP ⟨op, on, ols, opr, odl, ops, over⟩) 5 0 j)) := Lib.hid (S.out.2.1.below hb3)
            have F3 : Hid (w3.heap[bk]? = some (.cells #[.func (.func 73) #[] #[]] 88 (0, 0))) := Lib.hid ((hb3.block bk (Array.getElem?_eq_some_iff.1 S.out.2.2.2).1).trans S.out.2.2.2)
            clear hb3 HC z0 z1 z2 z3 z4 z5 z6 f1
            obtain ⟨acc, hacc⟩ : ∃ acc, acc = accK ⟨op, on, ols, opr, odl, ops, over⟩ 5 ++ enumA (hP ⟨op, on, ols, opr, odl, ops, over⟩) 5 0 j := ⟨_, rfl⟩
            have N1 : Hid ((opr == (j : Int)) = true → accK ⟨op, on, ols, opr, odl, ops, over⟩ 5 ++ enumA (hP ⟨op, on, ols, opr, odl, ops, over⟩) 5 0 (j + 1) = acc ++ [(5, (j : Int))]) := Lib.hid (fun q => by rw [enumA, hacc, List.append_assoc, Int.zero_add, if_pos (show hP ⟨op, on, ols, opr, odl, ops, over⟩ 5 (j : Int) = true from q)])
            have N0 : Hid ((opr == (j : Int)) = false → accK ⟨op, on, ols, opr, odl, ops, over⟩ 5 ++ enumA (hP ⟨op, on, ols, opr, odl, ops, over⟩) 5 0 (j + 1) = acc) := Lib.hid (fun q => by rw [enumA, hacc, Int.zero_add, if_neg (show ¬ hP ⟨op, on, ols, opr, odl, ops, over⟩ 5 (j : Int) = true from fun t => absurd (show (opr == (j : Int)) = true from t) (by rw [q]; decide)), List.append_nil])
            have LN : Hid ((acc.length + 1) * kSc.b ≤ 140737488355328) := Lib.hid (by
              rw [hacc, List.length_append]
              have h1 := acc_len ⟨op, on, ols, opr, odl, ops, over⟩ 5
              have h2 := enumA_len (hP ⟨op, on, ols, opr, odl, ops, over⟩) 5 0 j
              show (_ + 1) * 16 ≤ 140737488355328
              omega)
            rw [← hacc] at O3
            clear hacc
            cases hv : (opr == (j : Int)) with
            | true =>
              have NX := Lib.hid (N1.out hv)
              clear hv N1 N0
              go_wp2_with (at_builtin; refine app_rowB okSc (gg := w3.heap.size) rfl _ _ rfl rfl O3.out B3.out.size (5, (j : Int)) (by simp) rfl rfl LN.out ?_; intro v' w' h1 h2)
              obtain ⟨a2, c2, rfl⟩ := h1.slice
              have A : Hid (OwnR kSc w2.heap.size w' (.slice a2 (acc ++ [(5, (j : Int))]).length c2) (accK ⟨op, on, ols, opr, odl, ops, over⟩ 5 ++ enumA (hP ⟨op, on, ols, opr, odl, ops, over⟩) 5 0 (j + 1)) ∧ Below w2.heap.size w2 w' ∧ w'.heap[bk]? = some (.cells #[.func (.func 73) #[] #[]] 88 (0, 0))) := Lib.hid ⟨by rw [NX.out]; exact h1, B3.out.trans (grown_belowR h2 O3.out B3.out.size), (h2.block bk (Array.getElem?_eq_some_iff.1 F3.out).1 (fun e => by
                obtain ⟨cs, mk, h⟩ := O3.out.ty bk e.symm
                rw [F3.out] at h
                simp only [Option.some.injEq, Obj.cells.injEq] at h
                exact absurd h.2.1 (by decide))).trans F3.out⟩
              clear h1 h2
              go_wp2_with fail
              go_roundg (10 - (j + 1))
              case measure => have := S.out.1; omega
              case rel => exact ⟨j + 1, a2, _, c2, by omega, rfl, by go_num, rfl, A.out.1, A.out.2.1, A.out.2.2⟩
            | false =>
              have NX := Lib.hid (N0.out hv)
              clear hv N1 N0
              go_wp2_with fail
              go_roundg (10 - (j + 1))
              case measure => have := S.out.1; omega
              case rel => exact ⟨j + 1, a', _, c, by omega, rfl, by go_num, rfl, by rw [NX.out]; exact O3.out, B3.out, F3.out⟩
          · have ej : j = 10 := by omega
            subst ej
            have ge : decide (((10 : Nat) : Int) < 10) = false := by decide
            go_wp2_with fail
            go_roundg (6 - 6)
            case measure => have := R.out.1; omega
            case rel => exact ⟨6, a', m, c, by omega, rfl, by go_num, rfl, S.out.2.1, S.out.2.2.1⟩
    · have e6 : k = 6 := by omega
      subst e6
      go_wp2_with fail
      go_ret
      refine ⟨a', m, c, rfl, ?_, (KC.out wr R.out.2.2).2.2.1⟩
      have q := R.out.2.1
      rw [acc_can] at q
      exact q.mono (by have := BX.out.2; omega)
end Go.Proofs.YtodfmnbfbndkhaaGreatDoor
