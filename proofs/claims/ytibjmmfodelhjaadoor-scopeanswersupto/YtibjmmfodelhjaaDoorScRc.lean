/-
  The document's Within, Of.
-/
import Derived.Test.YtibjmmfodelhjaaDoorScRb
import Derived.Test.YtibjmmfodelhjaaDoorScT
import Derived.Test.YtibjmmfodelhjaaDoorScQ
namespace Go.Proofs.YtibjmmfodelhjaaDoor
open Go.RowKit
open Go.Sort (grow)
set_option maxHeartbeats 4000000 in
set_option maxRecDepth 100000 in
theorem refWithin_any (k a k' a' : Int) (w : World) :
    Calls Tryd.prog 28 #[.agg #[.int .i64 k, .int .i64 a], .agg #[.int .i64 k', .int .i64 a']] w fun e w' => e = .returned (.bool (wiB k a k' a')) ∧ Below w.heap.size w w' := by
  obtain ⟨X, hX⟩ : ∃ X, X = (w.alloc (.cells #[.int .i64 k, .int .i64 a] 41)).alloc (.cells #[.int .i64 k', .int .i64 a'] 41) := ⟨_, rfl⟩
  have BX : Hid (Below w.heap.size w X) := Lib.hid (by rw [hX]; have q : Below w.heap.size w (w.alloc (.cells #[.int .i64 k, .int .i64 a] 41)) := (Below.refl _ w).alloc (Nat.le_refl _) _; exact q.alloc q.size _)
  have KC : Hid (∀ W : World, Below X.heap.size X W → W.cell? ⟨w.heap.size, 0, none⟩ = some (.int .i64 k) ∧ W.cell? ⟨w.heap.size, 1, none⟩ = some (.int .i64 a) ∧ W.cell? ⟨w.heap.size + 1, 0, none⟩ = some (.int .i64 k') ∧ W.cell? ⟨w.heap.size + 1, 1, none⟩ = some (.int .i64 a') ∧ Below w.heap.size w W) := Lib.hid fun W hb => by
    have q : ∀ j v, (#[.int .i64 k, .int .i64 a] : Array Value)[j]? = some v → X.cell? ⟨w.heap.size, j, none⟩ = some v := fun j v hv => by rw [hX]; exact cell_al (by rw [World.cell?_alloc_new]; exact hv) _
    have q2 : ∀ j v, (#[.int .i64 k', .int .i64 a'] : Array Value)[j]? = some v → X.cell? ⟨w.heap.size + 1, j, none⟩ = some v := fun j v hv => by
      have e : w.heap.size + 1 = (w.alloc (.cells #[.int .i64 k, .int .i64 a] 41)).heap.size := by simp
      rw [hX, e, World.cell?_alloc_new]; exact hv
    exact ⟨(hb.cell (block_lt_of_cell (q 0 _ rfl))).trans (q 0 _ rfl), (hb.cell (block_lt_of_cell (q 1 _ rfl))).trans (q 1 _ rfl), (hb.cell (block_lt_of_cell (q2 0 _ rfl))).trans (q2 0 _ rfl), (hb.cell (block_lt_of_cell (q2 1 _ rfl))).trans (q2 1 _ rfl), BX.out.trans (hb.mono BX.out.size)⟩
  have EX := Lib.hid hX
  clear hX
  go_enter Tryd.func28, Tryd.ntmps28
  have V1 := Lib.hid (refValid_any k a X)
  rw [EX.out] at V1
  go_wp2_with fail
  refine V1.out.mono ?_
  rintro e w1 ⟨rfl, hb1⟩
  rw [← EX.out] at hb1
  obtain ⟨c0, c1, c2, c3, b1⟩ := KC.out w1 hb1
  have B1 := Lib.hid b1
  have V2 := Lib.hid (refValid_any k' a' w1)
  have X1 := Lib.hid hb1
  clear b1 hb1 V1
  cases hv : validB k a with
  | false =>
    have E : Hid (wiB k a k' a' = false) := Lib.hid (by unfold wiB; rw [hv]; rfl)
    clear hv
    go_wp2_with fail
    go_ret
    exact ⟨by rw [E.out]; rfl, B1.out⟩
  | true =>
    go_wp2_with fail
    refine V2.out.mono ?_
    rintro e w2 ⟨rfl, hb2⟩
    obtain ⟨d0, d1, d2, d3, b2⟩ := KC.out w2 (X1.out.trans (hb2.mono X1.out.size))
    have B2 := Lib.hid b2
    clear c0 c1 c2 c3 hb2 b2 V2
    cases hv' : validB k' a' with
    | false =>
      have E : Hid (wiB k a k' a' = false) := Lib.hid (by unfold wiB; rw [hv, hv']; rfl)
      clear hv hv'
      go_wp2_with fail
      go_ret
      exact ⟨by rw [E.out]; rfl, B2.out⟩
    | true =>
      have E : Hid (wiB k a k' a' = ((k == k' && a == a') || k' == 0)) := Lib.hid (by unfold wiB; rw [hv, hv']; rfl)
      clear hv hv'
      by_cases hs : k = k' ∧ a = a'
      · obtain ⟨rfl, rfl⟩ := hs
        have E2 : Hid (((k == k && a == a) || k == 0) = true) := Lib.hid (by simp)
        go_wp2_with fail
        go_ret
        exact ⟨by rw [E.out, E2.out]; rfl, B2.out⟩
      · by_cases hk : k = k'
        · subst hk
          have ha : ¬ a = a' := fun e => hs ⟨rfl, e⟩
          have gk : (k == k) = true := by simp
          have ga : (a == a') = false := by rw [beq_eq_false_iff_ne]; exact ha
          clear hs
          by_cases h0 : k = 0
          · subst h0
            have E2 : Hid ((((0 : Int) == 0 && a == a') || (0 : Int) == 0) = true) := Lib.hid (by simp)
            go_wp2_with fail
            go_ret
            exact ⟨by rw [E.out, E2.out]; first | rfl | simp, B2.out⟩
          · have g0 : (k == 0) = false := by rw [beq_eq_false_iff_ne]; exact h0
            have E2 : Hid (((k == k && a == a') || k == 0) = false) := Lib.hid (by rw [ga, g0]; simp)
            go_wp2_with fail
            go_ret
            exact ⟨by rw [E.out, E2.out]; first | rfl | simp, B2.out⟩
        · have gk : (k == k') = false := by rw [beq_eq_false_iff_ne]; exact hk
          clear hs
          by_cases h0 : k' = 0
          · subst h0
            have E2 : Hid (((k == 0 && a == a') || (0 : Int) == 0) = true) := Lib.hid (by simp)
            go_wp2_with fail
            go_ret
            exact ⟨by rw [E.out, E2.out]; first | rfl | simp, B2.out⟩
          · have g0 : (k' == 0) = false := by rw [beq_eq_false_iff_ne]; exact h0
            have E2 : Hid (((k == k' && a == a') || k' == 0) = false) := Lib.hid (by rw [gk, g0]; rfl)
            go_wp2_with fail
            go_ret
            exact ⟨by rw [E.out, E2.out]; first | rfl | simp, B2.out⟩
theorem filt_take (l : List (Int × Int)) (p : Int × Int → Bool) (i : Nat) (h : i < l.length) : (l.take (i + 1)).filter p = (l.take i).filter p ++ (if p (l.getD i kSc.z) = true then [l.getD i kSc.z] else []) := by
  rw [take_onez l i kSc.z h, List.filter_append]
  congr 1
  simp only [List.filter_cons, List.filter_nil]
set_option maxHeartbeats 8000000 in
set_option maxRecDepth 100000 in
theorem refOf_any (o : Ob) (la : Option Addr) (ln lc : Nat) (pa : Option Addr) (pn pc : Nat) (w : World) (h : Pts w (.slice pa pn pc) o.ps) (hz : ∀ p ∈ o.ps, p.r.length + p.l.length ≤ 9223372036854775807) :
    Calls Tryd.prog 29 #[o.val (.slice la ln lc) (.slice pa pn pc)] w fun e w' => ∃ a n c, e = .returned (.slice a n c) ∧ OwnR kSc w.heap.size w' (.slice a n c) (canS o) ∧ Below w.heap.size w w' := by
  obtain ⟨op, on, ols, opr, odl, ops, over⟩ := o
  have H := Lib.hid h
  have HZ := Lib.hid hz
  clear h hz
  simp only at H HZ
  obtain ⟨X, hX⟩ : ∃ X, X = w.alloc (.cells #[.string op, .string on, .slice la ln lc, .int .i64 opr, .int .i64 odl, .slice pa pn pc, .int .i64 over] 25) := ⟨_, rfl⟩
  have BX : Hid (Below w.heap.size w X) := Lib.hid (by rw [hX]; exact (below_alR w).out _)
  have KC : Hid (∀ W : World, Below X.heap.size X W → W.cell? ⟨w.heap.size, 0, none⟩ = some (.string op) ∧ W.cell? ⟨w.heap.size, 1, none⟩ = some (.string on) ∧ W.cell? ⟨w.heap.size, 2, none⟩ = some (.slice la ln lc) ∧ W.cell? ⟨w.heap.size, 3, none⟩ = some (.int .i64 opr) ∧ W.cell? ⟨w.heap.size, 4, none⟩ = some (.int .i64 odl) ∧ W.cell? ⟨w.heap.size, 5, none⟩ = some (.slice pa pn pc) ∧ W.cell? ⟨w.heap.size, 6, none⟩ = some (.int .i64 over)) := Lib.hid fun W hb => by
    have q : ∀ j v, (#[.string op, .string on, .slice la ln lc, .int .i64 opr, .int .i64 odl, .slice pa pn pc, .int .i64 over] : Array Value)[j]? = some v → W.cell? ⟨w.heap.size, j, none⟩ = some v := fun j v hv => by
      have e : X.cell? ⟨w.heap.size, j, none⟩ = some v := by rw [hX, World.cell?_alloc_new]; exact hv
      exact (hb.cell (block_lt_of_cell e)).trans e
    exact ⟨q 0 _ rfl, q 1 _ rfl, q 2 _ rfl, q 3 _ rfl, q 4 _ rfl, q 5 _ rfl, q 6 _ rfl⟩
  have EX := Lib.hid hX
  have AL := Lib.hid (all_any X)
  clear hX
  unfold Ob.val
  simp only
  go_enter Tryd.func29, Tryd.ntmps29
  go_wp2_with fail
  rw [← EX.out]
  clear EX
  refine AL.out.mono ?_
  rintro e w1 ⟨qa, qn, qc, rfl, ho, hb⟩
  have en : qn = 15 := by obtain ⟨a, c, e⟩ := ho.slice; simp only [Value.slice.injEq] at e; rw [e.2.1]; rfl
  subst en
  have L1 : Hid (Row kSc w1 (.slice qa 15 qc) allS ∧ Below X.heap.size X w1) := Lib.hid ⟨ho.row okSc, hb⟩
  clear ho hb AL
  go_wp2_with fail
  go_loopg [3, 5] 15 (fun g so si wr => ∃ (i : Nat) (a' : Option Addr) (m c : Nat), i ≤ 15 ∧ g = 15 - i ∧ si = .int .i64 i ∧ so = .slice a' m c ∧ OwnR kSc w1.heap.size wr (.slice a' m c) ((allS.take i).filter fun s => inB ⟨op, on, ols, opr, odl, ops, over⟩ s.1 s.2) ∧ Below w1.heap.size w1 wr)
  case atStart => exact ⟨0, none, 0, 0, by omega, rfl, rfl, rfl, OwnR.nil _ _ _, Below.refl _ _⟩
  case round =>
    obtain ⟨i, a', m, c, hi, hg, rfl, rfl, ho, hb⟩ := hrel
    have R : Hid (gk = 15 - i ∧ OwnR kSc w1.heap.size wr (.slice a' m c) ((allS.take i).filter fun s => inB ⟨op, on, ols, opr, odl, ops, over⟩ s.1 s.2) ∧ Below w1.heap.size w1 wr) := Lib.hid ⟨hg, ho, hb⟩
    clear hg ho hb
    by_cases hlt : i < 15
    · have hlt' : (i : Int) < 15 := by omega
      have hil : i < allS.length := hlt
      obtain ⟨b, off, rfl, pc⟩ := (L1.out.1.below R.out.2.2).at i hil
      have FT := Lib.hid (filt_take allS (fun s => inB ⟨op, on, ols, opr, odl, ops, over⟩ s.1 s.2) i hil)
      obtain ⟨⟨k, a⟩, hx⟩ : ∃ x, x = allS.getD i kSc.z := ⟨_, rfl⟩
      rw [← hx] at pc FT
      simp only at FT
      have c0 : wr.cell? ⟨b, off + i * 2, none⟩ = some (.int .i64 k) := pc 0 _ rfl
      have c1 : wr.cell? ⟨b, off + i * 2 + 1, none⟩ = some (.int .i64 a) := pc 1 _ rfl
      clear pc hx hil
      have BQ : Hid (Below X.heap.size X wr) := Lib.hid (L1.out.2.trans (R.out.2.2.mono L1.out.2.size))
      obtain ⟨h0, h1, h2, h3, h4, h5, h6⟩ := KC.out wr BQ.out
      obtain ⟨acc, hacc⟩ : ∃ acc, acc = (allS.take i).filter fun s => inB ⟨op, on, ols, opr, odl, ops, over⟩ s.1 s.2 := ⟨_, rfl⟩
      rw [← hacc] at FT R
      have LN : Hid ((acc.length + 1) * kSc.b ≤ 140737488355328) := Lib.hid (by
        have q : acc.length ≤ (allS.take i).length := by rw [hacc]; exact List.length_filter_le _ _
        rw [List.length_take] at q
        show (_ + 1) * 16 ≤ 140737488355328
        omega)
      clear hacc
      obtain ⟨bb, hbb⟩ : ∃ bb, bb = inB ⟨op, on, ols, opr, odl, ops, over⟩ k a := ⟨_, rfl⟩
      rw [← hbb] at FT
      have IN : Hid (∀ d os, Calls Tryd.prog 27 #[.agg #[.string op, .string on, .slice la ln lc, .int .i64 opr, .int .i64 odl, .slice pa pn pc, .int .i64 over], .agg #[.int .i64 k, .int .i64 a]] (grow (redrawn wr d) os) fun e w'' => e = .returned (.bool bb) ∧ ∃ p : Regrown, w'' = grow (redrawn wr p.d) p.os) := Lib.hid fun d os => by
        rw [hbb]
        exact Calls.regrown_of (refIn_any ⟨op, on, ols, opr, odl, ops, over⟩ la ln lc pa pn pc k a _ (((H.out.below BX.out).below BQ.out).below (below_regrown wr d os)) HZ.out)
      have r0 := reg h0
      have r1 := reg h1
      have r2 := reg h2
      have r3 := reg h3
      have r4 := reg h4
      have r5 := reg h5
      have r6 := reg h6
      have s0 := reg c0
      have s1 := reg c1
      clear hbb h0 h1 h2 h3 h4 h5 h6
      go_wp2_with fail
      refine wp_region_quiet_below (by kernel_rfl) (by kernel_rfl) ?_
      repeat (go_big_quiet_step (refine IN.out _ _))
      refine wpQuiet_nil ?_
      rintro _ ⟨⟨dq, osq⟩, hw''⟩
      subst hw''
      have t0 := s0 dq osq
      have t1 := s1 dq osq
      have YB : Hid (Below w1.heap.size w1 (grow (redrawn wr dq) osq)) := Lib.hid (R.out.2.2.trans ((below_regrown wr dq osq).mono R.out.2.2.size))
      have YO : Hid (OwnR kSc w1.heap.size (grow (redrawn wr dq) osq) (.slice a' m c) acc) := Lib.hid (R.out.2.1.below (below_regrown wr dq osq))
      obtain ⟨W1, hW⟩ : ∃ W, W = grow (redrawn wr dq) osq := ⟨_, rfl⟩
      rw [← hW] at YB YO t0 t1 ⊢
      clear hW r0 r1 r2 r3 r4 r5 r6 s0 s1 IN c0 c1
      cases bb with
      | true =>
        rw [if_pos rfl] at FT
        go_wp2_with (at_builtin; refine app_rowB okSc (gg := W1.heap.size) rfl _ _ rfl rfl YO.out YB.out.size (k, a) (by simp) rfl rfl LN.out ?_; intro v' w' h1 h2)
        obtain ⟨a2, c2, rfl⟩ := h1.slice
        have A : Hid (OwnR kSc w1.heap.size w' (.slice a2 (acc ++ [(k, a)]).length c2) ((allS.take (i + 1)).filter fun s => inB ⟨op, on, ols, opr, odl, ops, over⟩ s.1 s.2) ∧ Below w1.heap.size w1 w') := Lib.hid ⟨by rw [FT.out]; exact h1, YB.out.trans (grown_belowR h2 YO.out YB.out.size)⟩
        clear h1 h2
        go_wp2_with fail
        go_roundg (15 - (i + 1))
        case measure => have := R.out.1; omega
        case rel => exact ⟨i + 1, a2, _, c2, by omega, rfl, by go_num, rfl, A.out.1, A.out.2⟩
      | false =>
        rw [if_neg (by decide), List.append_nil] at FT
        go_wp2_with fail
        go_roundg (15 - (i + 1))
        case measure => have := R.out.1; omega
        case rel => exact ⟨i + 1, a', m, c, by omega, rfl, by go_num, rfl, by rw [FT.out]; exact YO.out, YB.out⟩
    · have E : Hid (i = 15) := Lib.hid (by omega)
      go_wp2_with fail
      go_ret
      refine ⟨a', m, c, rfl, ?_, BX.out.trans ((L1.out.2.trans (R.out.2.2.mono L1.out.2.size)).mono BX.out.size)⟩
      have q := R.out.2.1
      rw [E.out] at q
      rw [← acc_filter]
      exact q.mono (Nat.le_trans BX.out.size L1.out.2.size)
end Go.Proofs.YtibjmmfodelhjaaDoor
