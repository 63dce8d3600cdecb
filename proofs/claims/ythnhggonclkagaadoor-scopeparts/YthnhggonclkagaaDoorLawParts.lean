/-
  THE WALK of ScopeParts.
-/
import Derived.Test.YthnhggonclkagaaDoorScR
import Derived.Test.YthnhggonclkagaaDoorScN
import Derived.Test.YthnhggonclkagaaDoorScF
import Derived.Test.YthnhggonclkagaaDoorScQ
import Derived.Test.YthnhggonclkagaaDoorScH
namespace Go.Proofs.YthnhggonclkagaaDoor
open Go.RowKit
open Go.Sort (grow)
set_option maxHeartbeats 16000000 in
set_option maxRecDepth 100000 in
theorem scopeParts_walk (o : Ob) (ls ps : Value) (w : World) (hN : Nms w)
    (hv : ObV w ls ps o ∧ o.Fit ∧ o.ls.length * 32 ≤ 140737488355328 ∧ o.ps.length * 64 ≤ 140737488355328 ∧ ∀ y ∈ o.ps, y.r.length * 24 ≤ 140737488355328 ∧ y.l.length * 24 ≤ 140737488355328) :
    Calls Tryd.prog 7 #[o.val ls ps] w fun e w' => e = .returned (.bool true) ∧ Below w.heap.size w w' := by
  have OZ : Hid (OSz o) := Lib.hid hv.2.2
  have OV : Hid (ObV w ls ps o) := Lib.hid hv.1
  have H := Lib.hid hN
  obtain ⟨la, lc, rfl, _, _⟩ := hv.1.l.len
  obtain ⟨pa, pc, rfl, _, _⟩ := hv.1.p.len
  clear hv hN
  obtain ⟨op, on, ols, opr, odl, ops, over⟩ := o
  simp only at OV
  unfold Ob.val
  simp only
  obtain ⟨ln, hln⟩ : ∃ n, n = ols.length := ⟨_, rfl⟩
  obtain ⟨pn, hpn⟩ : ∃ n, n = ops.length := ⟨_, rfl⟩
  rw [← hln, ← hpn] at OV ⊢
  have HL : Hid (ln = ols.length ∧ pn = ops.length) := Lib.hid ⟨hln, hpn⟩
  clear hln hpn
  obtain ⟨X, hX⟩ : ∃ X, X = w.alloc (.cells #[.string op, .string on, .slice la ln lc, .int .i64 opr, .int .i64 odl, .slice pa pn pc, .int .i64 over] 25) := ⟨_, rfl⟩
  have BX : Hid (Below w.heap.size w X) := Lib.hid (by rw [hX]; exact (below_alR w).out _)
  have KC : Hid (∀ W : World, Below X.heap.size X W → W.cell? ⟨w.heap.size, 0, none⟩ = some (.string op) ∧ W.cell? ⟨w.heap.size, 1, none⟩ = some (.string on) ∧ W.cell? ⟨w.heap.size, 2, none⟩ = some (.slice la ln lc) ∧ W.cell? ⟨w.heap.size, 3, none⟩ = some (.int .i64 opr) ∧ W.cell? ⟨w.heap.size, 4, none⟩ = some (.int .i64 odl) ∧ W.cell? ⟨w.heap.size, 5, none⟩ = some (.slice pa pn pc) ∧ W.cell? ⟨w.heap.size, 6, none⟩ = some (.int .i64 over)) := Lib.hid fun W hb => by
    have q2 : ∀ j v, (#[.string op, .string on, .slice la ln lc, .int .i64 opr, .int .i64 odl, .slice pa pn pc, .int .i64 over] : Array Value)[j]? = some v → W.cell? ⟨w.heap.size, j, none⟩ = some v := fun j v hv => by
      have e : X.cell? ⟨w.heap.size, j, none⟩ = some v := by rw [hX, World.cell?_alloc_new]; exact hv
      exact (hb.cell (block_lt_of_cell e)).trans e
    exact ⟨q2 0 _ rfl, q2 1 _ rfl, q2 2 _ rfl, q2 3 _ rfl, q2 4 _ rfl, q2 5 _ rfl, q2 6 _ rfl⟩
  have BW : Hid (∀ W, Below X.heap.size X W → Below w.heap.size w W ∧ Nms W) := Lib.hid fun W hb => ⟨BX.out.trans (hb.mono BX.out.size), (H.out.below BX.out).below hb⟩
  have OWN : Hid (∀ W, Below X.heap.size X W → Calls Tryd.prog 11 #[.agg #[.string op, .string on, .slice la ln lc, .int .i64 opr, .int .i64 odl, .slice pa pn pc, .int .i64 over]] W fun e w' => ∃ xa xc ya yc, e = .returned (.agg #[.string op, .string on, .slice xa ln xc, .int .i64 opr, .int .i64 odl, .slice ya pn yc, .int .i64 over]) ∧ Pts w' (.slice ya pn yc) ops ∧ Below W.heap.size W w') := Lib.hid fun W hb => by
    have q := own_any ⟨op, on, ols, opr, odl, ops, over⟩ (.slice la ln lc) (.slice pa pn pc) W (OV.out.below (BW.out W hb).1) OZ.out
    refine q.mono ?_
    rintro e w' ⟨xa, xc, ya, yc, he, ho, hb'⟩
    refine ⟨xa, xc, ya, yc, ?_, ?_, hb'⟩
    · rw [he]; unfold Ob.val; simp only [HL.out.1, HL.out.2]
    · have := ho.obv.p
      simp only at this
      rw [HL.out.2]; exact this
  have INN : Hid (∀ W xa xc ya yc (kk aa : Int) (b : Bool), inB ⟨op, on, ols, opr, odl, ops, over⟩ kk aa = b → Below X.heap.size X W → Pts W (.slice ya pn yc) ops → Calls Tryd.prog 17 #[.agg #[.string op, .string on, .slice xa ln xc, .int .i64 opr, .int .i64 odl, .slice ya pn yc, .int .i64 over], .agg #[.int .i64 kk, .int .i64 aa]] W fun e w' => e = .returned (.bool b) ∧ Below W.heap.size W w') := Lib.hid fun W xa xc ya yc kk aa b hbb hb hp => by
    refine (in_any ⟨op, on, ols, opr, odl, ops, over⟩ xa ln xc ya pn yc kk aa W (BW.out W hb).2 hp).mono ?_
    rintro e w' ⟨he, hb'⟩
    exact ⟨by rw [he, hbb], hb'⟩
  have OFF : Hid (∀ W xa xc ya yc, Below X.heap.size X W → Pts W (.slice ya pn yc) ops → Calls Tryd.prog 18 #[.agg #[.string op, .string on, .slice xa ln xc, .int .i64 opr, .int .i64 odl, .slice ya pn yc, .int .i64 over]] W fun e w' => ∃ fa fn fc, e = .returned (.slice fa fn fc) ∧ Row kSc w' (.slice fa fn fc) (canS ⟨op, on, ols, opr, odl, ops, over⟩) ∧ Below W.heap.size W w') := Lib.hid fun W xa xc ya yc hb hp => by
    refine (of_any ⟨op, on, ols, opr, odl, ops, over⟩ xa ln xc ya pn yc W (BW.out W hb).2 hp).mono ?_
    rintro e w' ⟨fa, fn, fc, he, ho, hb'⟩
    exact ⟨fa, fn, fc, he, ho.row okSc, hb'⟩
  have EX := Lib.hid hX
  clear hX
  have FX := Lib.hid (fixed_any X (H.out.below BX.out))
  rw [EX.out] at FX
  go_enter Tryd.func7, Tryd.ntmps7
  go_wp2_with fail
  refine FX.out.mono ?_
  rintro e w1 ⟨rfl, hb1⟩
  rw [← EX.out] at hb1
  have X1 := Lib.hid hb1
  have SL := Lib.hid (scopes_any w1 (BW.out w1 hb1).2)
  clear hb1 FX EX
  go_wp2_with fail
  refine SL.out.mono ?_
  rintro e w2 ⟨sa, sn, sc, rfl, hs2, hb2⟩
  have en : sn = 15 := by obtain ⟨q1, q2, e⟩ := hs2.slice; simp only [Value.slice.injEq] at e; rw [e.2.1]; rfl
  subst en
  have X2 : Hid (Below X.heap.size X w2) := Lib.hid (X1.out.trans (hb2.mono X1.out.size))
  have RS : Hid (∀ W, Below w2.heap.size w2 W → Row kSc W (.slice sa 15 sc) allS ∧ Below X.heap.size X W) := Lib.hid fun W hb => ⟨(hs2.row okSc).below hb, X2.out.trans (hb.mono X2.out.size)⟩
  clear hs2 hb2 SL
  go_wp2_with fail
  go_loopg [5, 6] 15 (fun g so si wr => ∃ (i : Nat) (a' : Option Addr) (m c : Nat), i ≤ 15 ∧ g = 15 - i ∧ si = .int .i64 i ∧ so = .slice a' m c ∧ OwnR kSc w2.heap.size wr (.slice a' m c) ((allS.take i).filter (fun s => inB ⟨op, on, ols, opr, odl, ops, over⟩ s.1 s.2)) ∧ Below w2.heap.size w2 wr)
  case atStart => exact ⟨0, none, 0, 0, by omega, rfl, rfl, rfl, OwnR.nil _ _ _, Below.refl _ _⟩
  case round =>
    obtain ⟨i, a', m, c, hi, hg, rfl, rfl, ho, hb⟩ := hrel
    have R : Hid (gk = 15 - i ∧ OwnR kSc w2.heap.size wr (.slice a' m c) ((allS.take i).filter (fun s => inB ⟨op, on, ols, opr, odl, ops, over⟩ s.1 s.2)) ∧ Below w2.heap.size w2 wr) := Lib.hid ⟨hg, ho, hb⟩
    clear hg ho hb
    by_cases hlt : i < 15
    · have hlt' : (i : Int) < 15 := by omega
      have hil : i < allS.length := hlt
      obtain ⟨sb, so, rfl, pc0⟩ := (RS.out wr R.out.2.2).1.at i hil
      have VV : Hid (validB (allS.getD i kSc.z).1 (allS.getD i kSc.z).2 = true) := Lib.hid (all_valid _ (getD_in hil))
      have TK := Lib.hid (take_onez allS i kSc.z hil)
      obtain ⟨⟨kk, aa⟩, hx⟩ : ∃ x, x = allS.getD i kSc.z := ⟨_, rfl⟩
      rw [← hx] at pc0 VV TK
      simp only at VV
      have c0 : wr.cell? ⟨sb, so + i * 2, none⟩ = some (.int .i64 kk) := pc0 0 _ rfl
      have c1 : wr.cell? ⟨sb, so + i * 2 + 1, none⟩ = some (.int .i64 aa) := pc0 1 _ rfl
      clear pc0 hx hil
      have KL : Hid (∀ W, Below wr.heap.size wr W → W.cell? ⟨sb, so + i * 2, none⟩ = some (.int .i64 kk) ∧ W.cell? ⟨sb, so + i * 2 + 1, none⟩ = some (.int .i64 aa) ∧ Below w2.heap.size w2 W ∧ Below X.heap.size X W ∧ OwnR kSc w2.heap.size W (.slice a' m c) ((allS.take i).filter (fun s => inB ⟨op, on, ols, opr, odl, ops, over⟩ s.1 s.2))) := Lib.hid fun W hb => by
        have b2 := R.out.2.2.trans (hb.mono R.out.2.2.size)
        exact ⟨(hb.cell (block_lt_of_cell c0)).trans c0, (hb.cell (block_lt_of_cell c1)).trans c1, b2, (RS.out W b2).2, R.out.2.1.below hb⟩
      obtain ⟨pt, hpt⟩ : ∃ pt, pt = printT kk aa := ⟨_, rfl⟩
      have PR : Hid (Calls Tryd.prog 23 #[.agg #[.int .i64 kk, .int .i64 aa]] wr fun e w' => e = .returned (.tuple #[.string pt, .int .i64 0]) ∧ Below wr.heap.size wr w') := Lib.hid (by
        have q := print_any kk aa wr (BW.out wr (KL.out wr (Below.refl _ _)).2.2.2.1).2
        rw [(pr_yes VV.out).1, (pr_yes VV.out).2, ← hpt] at q
        exact q)
      have PA : Hid (∀ W, Below wr.heap.size wr W → Calls Tryd.prog 21 #[.string pt] W fun e w' => e = .returned (.tuple #[.agg #[.int .i64 kk, .int .i64 aa], .int .i64 0]) ∧ Below W.heap.size W w') := Lib.hid fun W hb => by
        refine (parse_any pt W (BW.out W (KL.out W hb).2.2.2.1).2).mono ?_
        rintro e w' ⟨k1, a1, r1, he, hp, hb'⟩
        obtain ⟨rfl, rfl, rfl⟩ := hp.one (Or.inl ⟨rfl, VV.out, hpt.symm⟩)
        exact ⟨he, hb'⟩
      clear hpt
      go_wp2_with fail
      refine PR.out.mono ?_
      rintro e w3 ⟨rfl, hb3⟩
      have PA3 := Lib.hid (PA.out w3 hb3)
      have X3 := Lib.hid hb3
      clear hb3 PR PA
      go_wp2_with fail
      refine PA3.out.mono ?_
      rintro e w4 ⟨rfl, hb4⟩
      have X4 : Hid (Below wr.heap.size wr w4) := Lib.hid (X3.out.trans (hb4.mono X3.out.size))
      clear hb4 PA3 c0 c1
      obtain ⟨Y, hY⟩ : ∃ Y, Y = w4.alloc (.cells #[.int .i64 kk, .int .i64 aa] 41) := ⟨_, rfl⟩
      have YB : Hid (Below wr.heap.size wr Y ∧ Y.cell? ⟨w4.heap.size, 0, none⟩ = some (.int .i64 kk) ∧ Y.cell? ⟨w4.heap.size, 1, none⟩ = some (.int .i64 aa)) := Lib.hid (by rw [hY]; exact ⟨X4.out.alloc X4.out.size _, by rw [World.cell?_alloc_new]; rfl, by rw [World.cell?_alloc_new]; rfl⟩)
      have EY := Lib.hid hY
      clear hY
      obtain ⟨c0, c1, -, -, -⟩ := KL.out Y YB.out.1
      have r0 := reg c0
      have r1 := reg c1
      have r2 := reg YB.out.2.1
      have r3 := reg YB.out.2.2
      clear c0 c1
      have gk0 : (kk == kk) = true := by simp
      have ga0 : (aa == aa) = true := by simp
      go_wp2_with fail
      rw [← EY.out]
      clear EY
      refine wp_region_quiet_below (by kernel_rfl) (by kernel_rfl) ?_
      repeat (go_big_quiet_step (fail))
      refine wpQuiet_nil ?_
      rintro _ ⟨⟨dq, osq⟩, hw5⟩
      obtain ⟨w5, h5⟩ : ∃ w5, w5 = grow (redrawn Y dq) osq := ⟨_, rfl⟩
      have X5 : Hid (Below wr.heap.size wr w5) := Lib.hid (by rw [h5]; exact YB.out.1.trans ((below_regrown Y dq osq).mono YB.out.1.size))
      subst hw5
      rw [← h5]
      clear h5 r0 r1 r2 r3 gk0 ga0
      obtain ⟨bi, hbi⟩ : ∃ b, b = inB ⟨op, on, ols, opr, odl, ops, over⟩ kk aa := ⟨_, rfl⟩
      have HB := Lib.hid hbi
      have KS : Hid (∀ W, Below wr.heap.size wr W → (W.cell? ⟨w.heap.size, 0, none⟩ = some (.string op) ∧ W.cell? ⟨w.heap.size, 1, none⟩ = some (.string on) ∧ W.cell? ⟨w.heap.size, 2, none⟩ = some (.slice la ln lc) ∧ W.cell? ⟨w.heap.size, 3, none⟩ = some (.int .i64 opr) ∧ W.cell? ⟨w.heap.size, 4, none⟩ = some (.int .i64 odl) ∧ W.cell? ⟨w.heap.size, 5, none⟩ = some (.slice pa pn pc) ∧ W.cell? ⟨w.heap.size, 6, none⟩ = some (.int .i64 over)) ∧ W.cell? ⟨sb, so + i * 2, none⟩ = some (.int .i64 kk) ∧ W.cell? ⟨sb, so + i * 2 + 1, none⟩ = some (.int .i64 aa)) := Lib.hid fun W hb => ⟨KC.out W (KL.out W hb).2.2.2.1, (KL.out W hb).1, (KL.out W hb).2.1⟩
      have BD : Hid (Below wr.heap.size wr w5.drew) := Lib.hid (X5.out.trans ((below_drawn w5 1).mono X5.out.size))
      have OW : Hid (∀ W, Below wr.heap.size wr W → Calls Tryd.prog 11 #[.agg #[.string op, .string on, .slice la ln lc, .int .i64 opr, .int .i64 odl, .slice pa pn pc, .int .i64 over]] W fun e w' => ∃ xa xc ya yc, e = .returned (.agg #[.string op, .string on, .slice xa ln xc, .int .i64 opr, .int .i64 odl, .slice ya pn yc, .int .i64 over]) ∧ Pts w' (.slice ya pn yc) ops ∧ Below wr.heap.size wr w') := Lib.hid fun W hb => (OWN.out W (KL.out W hb).2.2.2.1).mono fun _ _ ⟨xa, xc, ya, yc, e, hp, hb'⟩ => ⟨xa, xc, ya, yc, e, hp, hb.trans (hb'.mono hb.size)⟩
      have IW : Hid (∀ W xa xc ya yc, Below wr.heap.size wr W → Pts W (.slice ya pn yc) ops → Calls Tryd.prog 17 #[.agg #[.string op, .string on, .slice xa ln xc, .int .i64 opr, .int .i64 odl, .slice ya pn yc, .int .i64 over], .agg #[.int .i64 kk, .int .i64 aa]] W fun e w' => e = .returned (.bool bi) ∧ Below wr.heap.size wr w') := Lib.hid fun W xa xc ya yc hb hp => (INN.out W xa xc ya yc kk aa bi hbi.symm (KL.out W hb).2.2.2.1 hp).mono fun _ _ ⟨e, hb'⟩ => ⟨e, hb.trans (hb'.mono hb.size)⟩
      clear hbi
      go_wp2_with fail
      go_region_held3 (fun W : World => (W.cell? ⟨w.heap.size, 0, none⟩ = some (.string op) ∧ W.cell? ⟨w.heap.size, 1, none⟩ = some (.string on) ∧ W.cell? ⟨w.heap.size, 2, none⟩ = some (.slice la ln lc) ∧ W.cell? ⟨w.heap.size, 3, none⟩ = some (.int .i64 opr) ∧ W.cell? ⟨w.heap.size, 4, none⟩ = some (.int .i64 odl) ∧ W.cell? ⟨w.heap.size, 5, none⟩ = some (.slice pa pn pc) ∧ W.cell? ⟨w.heap.size, 6, none⟩ = some (.int .i64 over)) ∧ W.cell? ⟨sb, so + i * 2, none⟩ = some (.int .i64 kk) ∧ W.cell? ⟨sb, so + i * 2 + 1, none⟩ = some (.int .i64 aa)) (first | exact KS.out _ hb7 | exact KS.out _ hb6 | exact KS.out _ BD.out) (first | (go_at_call 11; refine (OW.out _ BD.out).mono ?_; rintro e w6 ⟨xa, xc, ya, yc, rfl, hp6, hb6⟩) | (go_at_call 17; refine (IW.out _ _ _ _ _ hb6 hp6).mono ?_; rintro e w7 ⟨rfl, hb7⟩))
      have X7 := Lib.hid hb7
      clear hb6 hb7 hp6 KS BD OW IW
      obtain ⟨c0, c1, b2, -, o7⟩ := KL.out w7 X7.out
      have B7 := Lib.hid b2
      have O7 := Lib.hid o7
      clear b2 o7
      obtain ⟨acc, hacc⟩ : ∃ acc, acc = (allS.take i).filter (fun s => inB ⟨op, on, ols, opr, odl, ops, over⟩ s.1 s.2) := ⟨_, rfl⟩
      have N1 : Hid (bi = true → (allS.take (i + 1)).filter (fun s => inB ⟨op, on, ols, opr, odl, ops, over⟩ s.1 s.2) = acc ++ [(kk, aa)]) := Lib.hid (fun q => by rw [TK.out, List.filter_append, ← hacc, List.filter_cons, if_pos (show inB ⟨op, on, ols, opr, odl, ops, over⟩ kk aa = true by rw [← HB.out]; exact q)]; rfl)
      have N0 : Hid (bi = false → (allS.take (i + 1)).filter (fun s => inB ⟨op, on, ols, opr, odl, ops, over⟩ s.1 s.2) = acc) := Lib.hid (fun q => by rw [TK.out, List.filter_append, ← hacc, List.filter_cons, if_neg (show ¬ inB ⟨op, on, ols, opr, odl, ops, over⟩ kk aa = true by rw [← HB.out, q]; decide)]; simp)
      have LN : Hid ((acc.length + 1) * kSc.b ≤ 140737488355328) := Lib.hid (by
        rw [hacc]
        have h1 := List.length_filter_le (fun s : Int × Int => inB ⟨op, on, ols, opr, odl, ops, over⟩ s.1 s.2) (allS.take i)
        rw [List.length_take] at h1
        have h2 : allS.length = 15 := rfl
        show (_ + 1) * 16 ≤ 140737488355328
        omega)
      rw [← hacc] at O7
      clear hacc HB
      cases bi with
      | true =>
        have NX := Lib.hid (N1.out rfl)
        clear N1 N0
        go_wp2_with (at_builtin; refine app_rowB okSc (gg := w7.heap.size) rfl _ _ rfl rfl O7.out B7.out.size (kk, aa) (by simp) rfl rfl LN.out ?_; intro v' w' h1 h2)
        obtain ⟨a2, c2, rfl⟩ := h1.slice
        have A : Hid (OwnR kSc w2.heap.size w' (.slice a2 (acc ++ [(kk, aa)]).length c2) ((allS.take (i + 1)).filter (fun s => inB ⟨op, on, ols, opr, odl, ops, over⟩ s.1 s.2)) ∧ Below w2.heap.size w2 w') := Lib.hid ⟨by rw [NX.out]; exact h1, B7.out.trans (grown_belowR h2 O7.out B7.out.size)⟩
        clear h1 h2
        go_wp2_with fail
        go_roundg (15 - (i + 1))
        case measure => have := R.out.1; omega
        case rel => exact ⟨i + 1, a2, _, c2, by omega, rfl, by go_num, rfl, A.out.1, A.out.2⟩
      | false =>
        have NX := Lib.hid (N0.out rfl)
        clear N1 N0
        go_wp2_with fail
        go_roundg (15 - (i + 1))
        case measure => have := R.out.1; omega
        case rel => exact ⟨i + 1, a', _, c, by omega, rfl, by go_num, rfl, by rw [NX.out]; exact O7.out, B7.out⟩
    · have ei : i = 15 := by omega
      subst ei
      have IL : Hid (Row kSc wr (.slice a' m c) (canS ⟨op, on, ols, opr, odl, ops, over⟩) ∧ m = (canS ⟨op, on, ols, opr, odl, ops, over⟩).length) := Lib.hid (by
        have q := R.out.2.1
        have e15 : allS.take 15 = allS := rfl
        rw [e15, acc_filter] at q
        obtain ⟨q1, q2, e⟩ := q.slice
        simp only [Value.slice.injEq] at e
        exact ⟨q.row okSc, e.2.1⟩)
      have XR : Hid (Below X.heap.size X wr) := Lib.hid (RS.out wr R.out.2.2).2
      obtain ⟨k1, hk1⟩ : ∃ k1 : Int, k1 = if onamB ops = true then 2 else 1 := ⟨_, rfl⟩
      obtain ⟨k2, hk2⟩ : ∃ k2 : Int, k2 = if 0 < odl then 3 else 4 := ⟨_, rfl⟩
      have b1 : 1 ≤ k1 ∧ k1 ≤ 2 := by rw [hk1]; split <;> omega
      have b2 : 3 ≤ k2 ∧ k2 ≤ 4 := by rw [hk2]; split <;> omega
      have KK : Hid ((k1 = 1 ∨ k1 = 2) ∧ (k2 = 3 ∨ k2 = 4)) := Lib.hid (by omega)
      clear b1 b2
      have CS : Hid (canS ⟨op, on, ols, opr, odl, ops, over⟩ = [(0, 0), (k1, 0), (k2, 0)] ++ (if 0 ≤ opr ∧ opr ≤ 9 then [(5, opr)] else [])) := Lib.hid (by unfold canS; simp only [hk1, hk2])
      clear hk1 hk2
      have SSY : Hid (∀ W fa fn fc, Row kSc W (.slice fa fn fc) (canS ⟨op, on, ols, opr, odl, ops, over⟩) → Row kSc W (.slice a' m c) (canS ⟨op, on, ols, opr, odl, ops, over⟩) → Calls Tryd.prog 20 #[.slice fa fn fc, .slice a' m c] W fun e w' => e = .returned (.bool true) ∧ Below W.heap.size W w') := Lib.hid fun W fa fn fc q1 q2 => sameScopes_yes _ _ _ W q1 q2
      have ROWS : Hid (∃ ib io, a' = some ⟨ib, io, none⟩ ∧ ∀ W : World, Below wr.heap.size wr W → (W.cell? ⟨ib, io, none⟩ = some (.int .i64 0) ∧ W.cell? ⟨ib, io + 1, none⟩ = some (.int .i64 0) ∧ W.cell? ⟨ib, io + 2, none⟩ = some (.int .i64 k1) ∧ W.cell? ⟨ib, io + 4, none⟩ = some (.int .i64 k2)) ∧ ((0 ≤ opr ∧ opr ≤ 9) → W.cell? ⟨ib, io + 6, none⟩ = some (.int .i64 5) ∧ W.cell? ⟨ib, io + 7, none⟩ = some (.int .i64 opr))) := Lib.hid (by
        have q := IL.out.1
        rw [CS.out] at q
        obtain ⟨ib, io, ea, p0⟩ := q.at 0 (by simp)
        refine ⟨ib, io, ea, fun W hb => ?_⟩
        have at_ : ∀ j, j < ([(0, 0), (k1, 0), (k2, 0)] ++ (if 0 ≤ opr ∧ opr ≤ 9 then [(5, opr)] else []) : List (Int × Int)).length → ∀ t y, (kSc.c (([(0, 0), (k1, 0), (k2, 0)] ++ (if 0 ≤ opr ∧ opr ≤ 9 then [(5, opr)] else []) : List (Int × Int)).getD j kSc.z))[t]? = some y → W.cell? ⟨ib, io + j * 2 + t, none⟩ = some y := fun j hj t y hy => by
          obtain ⟨ib', io', ea', pj⟩ := (q.below hb).at j hj
          rw [ea] at ea'
          simp only [Option.some.injEq, Addr.mk.injEq] at ea'
          obtain ⟨rfl, rfl, _⟩ := ea'
          exact pj t y hy
        refine ⟨⟨at_ 0 (by simp) 0 _ rfl, at_ 0 (by simp) 1 _ rfl, at_ 1 (by simp) 0 _ rfl, at_ 2 (by simp) 0 _ rfl⟩, fun hr => ?_⟩
        rw [if_pos hr] at at_
        exact ⟨at_ 3 (by simp) 0 _ rfl, at_ 3 (by simp) 1 _ rfl⟩)
      obtain ⟨ib, io, ea, RC0⟩ := ROWS.out
      subst ea
      have RC := Lib.hid RC0
      clear RC0 ROWS
      have ILW : Hid (∀ W, Below wr.heap.size wr W → Row kSc W (.slice (some ⟨ib, io, none⟩) m c) (canS ⟨op, on, ols, opr, odl, ops, over⟩)) := Lib.hid fun W hb => IL.out.1.below hb
      have MN : Hid (m = 3 + (if 0 ≤ opr ∧ opr ≤ 9 then 1 else 0)) := Lib.hid (by rw [IL.out.2, CS.out]; split <;> rfl)
      obtain ⟨z0, z1, z2, z3, z4, z5, z6⟩ := KC.out wr XR.out
      clear IL CS
      by_cases h0 : 0 ≤ opr
      · have g0 : decide (0 ≤ opr) = true := decide_eq_true h0
        by_cases h9 : opr ≤ 9
        · have hr : 0 ≤ opr ∧ opr ≤ 9 := ⟨h0, h9⟩
          have g9 : decide (opr ≤ 9) = true := decide_eq_true h9
          have em : m = 4 := by rw [MN.out, if_pos hr]
          subst em
          go_wp2_with fail
          refine (OWN.out _ XR.out).mono ?_
          rintro e w8 ⟨xa, xc, ya, yc, rfl, hp8, hb8⟩
          have X8 : Hid (Below wr.heap.size wr w8 ∧ Below X.heap.size X w8) := Lib.hid ⟨hb8, XR.out.trans (hb8.mono XR.out.size)⟩
          have OF8 := Lib.hid (OFF.out w8 xa xc ya yc X8.out.2 hp8)
          clear hp8 hb8 z0 z1 z2 z3 z4 z5 z6
          go_wp2_with fail
          refine OF8.out.mono ?_
          rintro e w9 ⟨fa, fn, fc, rfl, hr9, hb9⟩
          have X9 : Hid (Below wr.heap.size wr w9 ∧ Below X.heap.size X w9) := Lib.hid ⟨X8.out.1.trans (hb9.mono X8.out.1.size), X8.out.2.trans (hb9.mono X8.out.2.size)⟩
          have SS9 := Lib.hid (SSY.out w9 fa fn fc hr9 (ILW.out w9 X9.out.1))
          clear hr9 hb9 OF8
          go_wp2_with fail
          refine SS9.out.mono ?_
          rintro e wa ⟨rfl, hba⟩
          have XA : Hid (Below wr.heap.size wr wa ∧ Below X.heap.size X wa) := Lib.hid ⟨X9.out.1.trans (hba.mono X9.out.1.size), X9.out.2.trans (hba.mono X9.out.2.size)⟩
          clear hba SS9
          obtain ⟨⟨d0, d1, d2, d3⟩, hd⟩ := RC.out wa XA.out.1
          obtain ⟨d4, d5⟩ := hd hr
          have y3 := (KC.out wa XA.out.2).2.2.2.1
          have r4 := reg d4
          have r5 := reg d5
          have r6 := reg y3
          have gp : (opr == opr) = true := by simp
          clear hd
          obtain ⟨kc1, kc2⟩ := KK.out
          clear MN KK
          have FB : Hid (∀ dq os, Below w.heap.size w (grow (redrawn wa dq) os)) := Lib.hid fun dq os => (BW.out wa XA.out.2).1.trans ((below_regrown wa dq os).mono (BW.out wa XA.out.2).1.size)
          rcases kc1 with rfl | rfl <;> rcases kc2 with rfl | rfl
          all_goals
            go_wp2_with fail
            refine wp_region_quiet_below (by kernel_rfl) (by kernel_rfl) ?_
            repeat (go_big_quiet_step (fail))
            refine wpQuiet_nil ?_
            rintro _ ⟨⟨dq, osq⟩, hw5⟩
            subst hw5
            go_wp2_with fail
            go_ret
            exact ⟨rfl, FB.out _ _⟩
        · have hr : ¬ (0 ≤ opr ∧ opr ≤ 9) := fun q => h9 q.2
          have g9 : decide (opr ≤ 9) = false := decide_eq_false h9
          have em : m = 3 := by rw [MN.out, if_neg hr]
          subst em
          go_wp2_with fail
          refine (OWN.out _ XR.out).mono ?_
          rintro e w8 ⟨xa, xc, ya, yc, rfl, hp8, hb8⟩
          have X8 : Hid (Below wr.heap.size wr w8 ∧ Below X.heap.size X w8) := Lib.hid ⟨hb8, XR.out.trans (hb8.mono XR.out.size)⟩
          have OF8 := Lib.hid (OFF.out w8 xa xc ya yc X8.out.2 hp8)
          clear hp8 hb8 z0 z1 z2 z3 z4 z5 z6
          go_wp2_with fail
          refine OF8.out.mono ?_
          rintro e w9 ⟨fa, fn, fc, rfl, hr9, hb9⟩
          have X9 : Hid (Below wr.heap.size wr w9 ∧ Below X.heap.size X w9) := Lib.hid ⟨X8.out.1.trans (hb9.mono X8.out.1.size), X8.out.2.trans (hb9.mono X8.out.2.size)⟩
          have SS9 := Lib.hid (SSY.out w9 fa fn fc hr9 (ILW.out w9 X9.out.1))
          clear hr9 hb9 OF8
          go_wp2_with fail
          refine SS9.out.mono ?_
          rintro e wa ⟨rfl, hba⟩
          have XA : Hid (Below wr.heap.size wr wa ∧ Below X.heap.size X wa) := Lib.hid ⟨X9.out.1.trans (hba.mono X9.out.1.size), X9.out.2.trans (hba.mono X9.out.2.size)⟩
          clear hba SS9
          obtain ⟨⟨d0, d1, d2, d3⟩, hd⟩ := RC.out wa XA.out.1
          clear hd
          obtain ⟨kc1, kc2⟩ := KK.out
          clear MN KK
          have FB : Hid (∀ dq os, Below w.heap.size w (grow (redrawn wa dq) os)) := Lib.hid fun dq os => (BW.out wa XA.out.2).1.trans ((below_regrown wa dq os).mono (BW.out wa XA.out.2).1.size)
          rcases kc1 with rfl | rfl <;> rcases kc2 with rfl | rfl
          all_goals
            go_wp2_with fail
            refine wp_region_quiet_below (by kernel_rfl) (by kernel_rfl) ?_
            repeat (go_big_quiet_step (fail))
            refine wpQuiet_nil ?_
            rintro _ ⟨⟨dq, osq⟩, hw5⟩
            subst hw5
            go_wp2_with fail
            go_ret
            exact ⟨rfl, FB.out _ _⟩
      · have hr : ¬ (0 ≤ opr ∧ opr ≤ 9) := fun q => h0 q.1
        have g0 : decide (0 ≤ opr) = false := decide_eq_false h0
        have em : m = 3 := by rw [MN.out, if_neg hr]
        subst em
        go_wp2_with fail
        refine (OWN.out _ XR.out).mono ?_
        rintro e w8 ⟨xa, xc, ya, yc, rfl, hp8, hb8⟩
        have X8 : Hid (Below wr.heap.size wr w8 ∧ Below X.heap.size X w8) := Lib.hid ⟨hb8, XR.out.trans (hb8.mono XR.out.size)⟩
        have OF8 := Lib.hid (OFF.out w8 xa xc ya yc X8.out.2 hp8)
        clear hp8 hb8 z0 z1 z2 z3 z4 z5 z6
        go_wp2_with fail
        refine OF8.out.mono ?_
        rintro e w9 ⟨fa, fn, fc, rfl, hr9, hb9⟩
        have X9 : Hid (Below wr.heap.size wr w9 ∧ Below X.heap.size X w9) := Lib.hid ⟨X8.out.1.trans (hb9.mono X8.out.1.size), X8.out.2.trans (hb9.mono X8.out.2.size)⟩
        have SS9 := Lib.hid (SSY.out w9 fa fn fc hr9 (ILW.out w9 X9.out.1))
        clear hr9 hb9 OF8
        go_wp2_with fail
        refine SS9.out.mono ?_
        rintro e wa ⟨rfl, hba⟩
        have XA : Hid (Below wr.heap.size wr wa ∧ Below X.heap.size X wa) := Lib.hid ⟨X9.out.1.trans (hba.mono X9.out.1.size), X9.out.2.trans (hba.mono X9.out.2.size)⟩
        clear hba SS9
        obtain ⟨⟨d0, d1, d2, d3⟩, hd⟩ := RC.out wa XA.out.1
        clear hd
        obtain ⟨kc1, kc2⟩ := KK.out
        clear MN KK
        have FB : Hid (∀ dq os, Below w.heap.size w (grow (redrawn wa dq) os)) := Lib.hid fun dq os => (BW.out wa XA.out.2).1.trans ((below_regrown wa dq os).mono (BW.out wa XA.out.2).1.size)
        rcases kc1 with rfl | rfl <;> rcases kc2 with rfl | rfl
        all_goals
          go_wp2_with fail
          refine wp_region_quiet_below (by kernel_rfl) (by kernel_rfl) ?_
          repeat (go_big_quiet_step (fail))
          refine wpQuiet_nil ?_
          rintro _ ⟨⟨dq, osq⟩, hw5⟩
          subst hw5
          go_wp2_with fail
          go_ret
          exact ⟨rfl, FB.out _ _⟩
end Go.Proofs.YthnhggonclkagaaDoor
