/-
  group: where there is none, and one of one block.
-/
import Derived.Test.YtfljbipnjfciaabWaO
namespace Go.Proofs.Ytfljbipnjfciaab
open Go.RowKit Go.Maps
variable {B : Nat} {w W W' : World} {d mb mp : Nat} {cv : Value} {ds : DS} {l : Nat} {pv : Value} {s : LS}
set_option maxRecDepth 100000 in
set_option maxHeartbeats 4000000 in
theorem group_zero (h : Wl B w d mb mp cv ds l pv s) (hdn : ds.down = false) (hn : s.fst + s.n ≤ ds.n) (old : Nat) (hz : unR (rdB ds (s.at 0)) = (zeroG, [], 2)) : Calls Try.prog 83 #[.pointer (some ⟨l, 0, none⟩), .int .i64 (old : Int)] w fun e w' => e = .returned (.tuple #[.agg zeroG.arr, .slice none 0 0, .int .i64 0]) ∧ Wl B w' d mb mp cv (rd1 ds) l pv s ∧ Kept (fun k => k = d) w w' := by
  obtain ⟨X, hX⟩ : ∃ X, X = w.alloc (.cells #[.int .i64 0, .int .i64 0, .int .i64 0, .int .i64 0, .int .i64 0] 23) := ⟨_, rfl⟩
  have BX : Hid (Below w.heap.size w X) := Lib.hid (by rw [hX]; exact (Below.refl _ _).alloc (Nat.le_refl _) _)
  have GX : Hid (X.heap[w.heap.size]? = some (.cells zeroG.arr 23 (0, 0))) := Lib.hid (by rw [hX]; exact heap_alloc_new _ _)
  have WX : Hid (Wl B X d mb mp cv ds l pv s) := Lib.hid (h.below BX.out)
  have BK := Lib.hid (block_any WX.out hdn hn 0 (by omega))
  rw [hz] at BK
  have dX : Hid (w.heap.size ≠ d) := Lib.hid (by have := (h.dv.foot_lt d (.inl rfl)).2; omega)
  have hes : 1 ≤ s.es := by have := h.lg.fit.f1; have := h.lg.fit.f2; omega
  obtain ⟨es, hes'⟩ : ∃ es, es = s.es := ⟨_, rfl⟩
  have HES := Lib.hid hes'
  rw [← hes'] at hes
  have H := Lib.hid h
  have hX' := hX.symm
  clear h hdn hn hz hX hes'
  go_enter Try.func83, Try.ntmps83
  go_wp2_with fail
  refine BK.out.mono ?_
  rintro r w2 ⟨vp, rfl, ho2, hw2, hk2⟩
  have F2 := Lib.hid (And.intro hw2 hk2)
  have evp : vp = .slice none 0 0 ∨ ∃ g c, vp = .slice (some ⟨g, 0, none⟩) 0 c := by
    obtain ⟨_, ⟨hv, _⟩ | ⟨g, cap, cur, hv, _⟩⟩ := ho2
    · exact .inl hv
    · exact .inr ⟨g, cap, hv⟩
  clear ho2 hw2 hk2 BK evp
  obtain ⟨Y, hY⟩ : ∃ Y, Y = w2.alloc (.cells #[.int .i64 0, .int .i64 0, .int .i64 0, .int .i64 0, .int .i64 0] 23) := ⟨_, rfl⟩
  have GY : Hid (Y.heap[w2.heap.size]? = some (.cells zeroG.arr 23 (0, 0))) := Lib.hid (by rw [hY]; exact heap_alloc_new _ _)
  have BY : Hid (Below w2.heap.size w2 Y) := Lib.hid (by rw [hY]; exact (Below.refl _ _).alloc (Nat.le_refl _) _)
  have WY : Hid (Wl B Y d mb mp cv (rd1 ds) l pv s) := Lib.hid (F2.out.1.below BY.out)
  have G2 : Hid (w2.heap[w.heap.size]? = some (.cells zeroG.arr 23 (0, 0))) := Lib.hid (by rw [F2.out.2.block _ (lt_of_heap GX.out) dX.out]; exact GX.out)
  have s2 : Hid (w.heap.size < w2.heap.size) := Lib.hid (lt_of_heap G2.out)
  obtain ⟨Z, hZ⟩ : ∃ Z, Z = Y.setRow w2.heap.size zeroG.arr := ⟨_, rfl⟩
  have GZ : Z.heap[w2.heap.size]? = some (.cells zeroG.arr 23 (0, 0)) := by rw [hZ]; exact setRow_heap _ _ _ _ _ _ GY.out
  have BZ : Hid (Below w2.heap.size w2 Z) := Lib.hid (by rw [hZ]; exact below_setRow BY.out (Nat.le_refl _) _)
  have WZ : Hid (Wl B Z d mb mp cv (rd1 ds) l pv s) := Lib.hid (F2.out.1.below BZ.out)
  have c2 : Z.cell? ⟨w2.heap.size, 2, none⟩ = some (.int .i64 0) := cell_of_row Z _ 2 _ _ _ GZ
  have c1 : Z.cell? ⟨w2.heap.size, 1, none⟩ = some (.int .i64 0) := cell_of_row Z _ 1 _ _ _ GZ
  have p6 : Z.cell? ⟨l, 6, none⟩ = some (.int .i64 (es : Int)) := by rw [HES.out]; exact WZ.out.lg.cell 6
  have GZ' : Hid (Z.heap[w.heap.size]? = some (.cells zeroG.arr 23 (0, 0))) := Lib.hid (by rw [BZ.out.block _ s2.out]; exact G2.out)
  have b1 : ((0 : Int) != (es : Int)) = true := by rw [bne_iff_ne]; omega
  have hZ' := hZ.symm
  have hY' := hY.symm
  clear hZ hY GZ
  go_wp2_with (refine wpList_store_row rfl 23 (.tmp 7) (.tmp 17) rfl w2.heap.size zeroG.arr rfl rfl 23 zeroG.arr GY.out size_group rfl (arr_one _) ?_; rw [hZ'])
  go_quiet (fail)
  have GD : Hid ((Z.drewN nq).heap[w.heap.size]? = some (.cells zeroG.arr 23 (0, 0))) := Lib.hid GZ'.out
  go_wp2_with (refine wpList_store_row rfl 23 (.tmp 4) (.tmp 59) rfl w.heap.size zeroG.arr rfl rfl 23 zeroG.arr GD.out size_group rfl (arr_one _) ?_)
  have hr := setRow_heap (Z.drewN nq) w.heap.size zeroG.arr zeroG.arr _ _ GD.out
  have KZ := kept_setRow (Z.drewN nq) w.heap.size zeroG.arr
  have WD : Wl B (Z.drewN nq) d mb mp cv (rd1 ds) l pv s := WZ.out.below (below_drawn Z nq)
  have lw : ∀ k, Foot d mb mp cv k → ¬ k = w.heap.size := fun k hk e => by have := (H.out.dv.foot_lt k hk).2; omega
  have ll : l ≠ w.heap.size := by have := lt_of_heap H.out.lg.self; omega
  have lp : ∀ k, pv.ownBlock = some k → ¬ k = w.heap.size := fun k hk e => by have := (H.out.lg.pay.lt k hk).2; omega
  refine bodyPost_ret (results_cell2 rfl _ _ ⟨w.heap.size, 0, none⟩ (.agg zeroG.arr) rfl (load_group _ _ zeroG hr)) rfl ⟨rfl, ⟨WD.dv.kept KZ lw, WD.lg.kept KZ ll lp⟩, ?_⟩
  have k1 : Kept (fun k => k = d) w X := Below.kept BX.out _
  have k2 := k1.trans F2.out.2 (fun _ _ q => q)
  have k3 := k2.trans (Below.kept BZ.out (fun _ => False)) (fun _ _ q => q.elim)
  have k4 := k3.trans (Below.kept (below_drawn Z nq) (fun _ => False)) (fun _ _ q => q.elim)
  exact k4.trans KZ (fun x hx q => by omega)
/-- A block that is a group's whole. -/
structure OneG (s : LS) (old : Nat) (g : Grp) : Prop where
  ix : g.ix = 0
  st : g.st = (s.es : Int)
  e1 : (old : Int) ≤ g.ep
  e2 : g.ep ≤ (s.ep : Int)
  tt : g.tot = 1
  fr : 1 ≤ s.free
set_option maxRecDepth 100000 in
set_option maxHeartbeats 8000000 in
theorem group_one (h : Wl B w d mb mp cv ds l pv s) (hdn : ds.down = false) (hn : s.fst + s.n ≤ ds.n) (old : Nat) (g : Grp) (p : List UInt8) (hg : OneG s old g) (hz : unR (rdB ds (s.at 0)) = (g, p, 0)) : Calls Try.prog 83 #[.pointer (some ⟨l, 0, none⟩), .int .i64 (old : Int)] w fun e w' => ∃ vp, e = .returned (.tuple #[.agg g.arr, vp, .int .i64 0]) ∧ Own w.heap.size w' vp p ∧ Wl B w' d mb mp cv (rd1 ds) l pv s ∧ Kept (fun k => k = d) w w' := by
  obtain ⟨X, hX⟩ : ∃ X, X = w.alloc (.cells #[.int .i64 0, .int .i64 0, .int .i64 0, .int .i64 0, .int .i64 0] 23) := ⟨_, rfl⟩
  have BX : Hid (Below w.heap.size w X) := Lib.hid (by rw [hX]; exact (Below.refl _ _).alloc (Nat.le_refl _) _)
  have GX : Hid (X.heap[w.heap.size]? = some (.cells zeroG.arr 23 (0, 0))) := Lib.hid (by rw [hX]; exact heap_alloc_new _ _)
  have WX : Hid (Wl B X d mb mp cv ds l pv s) := Lib.hid (h.below BX.out)
  have BK := Lib.hid (block_any WX.out hdn hn 0 (by omega))
  rw [hz] at BK
  have dX : Hid (w.heap.size ≠ d) := Lib.hid (by have := (h.dv.foot_lt d (.inl rfl)).2; omega)
  obtain ⟨es, hes'⟩ : ∃ es, es = s.es := ⟨_, rfl⟩
  obtain ⟨ep, hep'⟩ : ∃ ep, ep = s.ep := ⟨_, rfl⟩
  obtain ⟨F, hF⟩ : ∃ F, F = s.free := ⟨_, rfl⟩
  have HES := Lib.hid (And.intro hes' (And.intro hep' hF))
  obtain ⟨ge, gs, gi, gt, gy⟩ := g
  obtain ⟨q1, q2, q3, q4, q5, q6⟩ := hg
  simp only at q1 q2 q3 q4 q5
  rw [← hes'] at q2
  rw [← hep'] at q4
  rw [← hF] at q6
  subst q1 q2 q5
  have GA : Hid ((⟨ge, (es : Int), 0, 1, gy⟩ : Grp).arr = #[.int .i64 ge, .int .i64 (es : Int), .int .i64 0, .int .i64 1, .int .i64 gy]) := Lib.hid rfl
  have H := Lib.hid h
  have hX' := hX.symm
  clear h hdn hn hz hX hes' hep' hF
  go_enter Try.func83, Try.ntmps83
  go_wp2_with fail
  refine BK.out.mono ?_
  rintro r w2 ⟨vp, rfl, ho2, hw2, hk2⟩
  have F2 := Lib.hid (And.intro hw2 (And.intro hk2 ho2))
  clear ho2 hw2 hk2 BK
  obtain ⟨g, hgd⟩ : ∃ g : Grp, g = ⟨ge, (es : Int), 0, 1, gy⟩ := ⟨_, rfl⟩
  rw [← hgd] at GA ⊢
  obtain ⟨Y, hY⟩ : ∃ Y, Y = w2.alloc (.cells #[.int .i64 0, .int .i64 0, .int .i64 0, .int .i64 0, .int .i64 0] 23) := ⟨_, rfl⟩
  have GY : Hid (Y.heap[w2.heap.size]? = some (.cells zeroG.arr 23 (0, 0))) := Lib.hid (by rw [hY]; exact heap_alloc_new _ _)
  have BY : Hid (Below w2.heap.size w2 Y) := Lib.hid (by rw [hY]; exact (Below.refl _ _).alloc (Nat.le_refl _) _)
  have G2 : Hid (w2.heap[w.heap.size]? = some (.cells zeroG.arr 23 (0, 0))) := Lib.hid (by rw [F2.out.2.1.block _ (lt_of_heap GX.out) dX.out]; exact GX.out)
  have s2 : Hid (w.heap.size < w2.heap.size) := Lib.hid (lt_of_heap G2.out)
  obtain ⟨Z, hZ⟩ : ∃ Z, Z = Y.setRow w2.heap.size g.arr := ⟨_, rfl⟩
  have GZ0 : Z.heap[w2.heap.size]? = some (.cells g.arr 23 (0, 0)) := by rw [hZ]; exact setRow_heap _ _ _ _ _ _ GY.out
  have GZ : Hid (Z.heap[w2.heap.size]? = some (.cells g.arr 23 (0, 0))) := Lib.hid GZ0
  rw [GA.out] at GZ0
  have BZ : Hid (Below w2.heap.size w2 Z) := Lib.hid (by rw [hZ]; exact below_setRow BY.out (Nat.le_refl _) _)
  have WZ : Hid (Wl B Z d mb mp cv (rd1 ds) l pv s) := Lib.hid (F2.out.1.below BZ.out)
  have CS : Hid (∀ W, Below Z.heap.size Z W → W.cell? ⟨w2.heap.size, 0, none⟩ = some (.int .i64 ge) ∧ W.cell? ⟨w2.heap.size, 1, none⟩ = some (.int .i64 (es : Int)) ∧ W.cell? ⟨w2.heap.size, 2, none⟩ = some (.int .i64 0) ∧ W.cell? ⟨w2.heap.size, 3, none⟩ = some (.int .i64 1) ∧ W.cell? ⟨l, 6, none⟩ = some (.int .i64 (es : Int)) ∧ W.cell? ⟨l, 3, none⟩ = some (.int .i64 (ep : Int))) := Lib.hid (fun W hb => by
    have q : W.heap[w2.heap.size]? = _ := (hb.block _ (lt_of_heap GZ0)).trans GZ0
    have wl := WZ.out.below hb
    exact ⟨cell_of_row W _ 0 _ _ _ q, cell_of_row W _ 1 _ _ _ q, cell_of_row W _ 2 _ _ _ q, cell_of_row W _ 3 _ _ _ q, by rw [HES.out.1]; exact wl.lg.cell 6, by rw [HES.out.2.1]; exact wl.lg.cell 3⟩)
  have GZ' : Hid (Z.heap[w.heap.size]? = some (.cells zeroG.arr 23 (0, 0))) := Lib.hid (by rw [BZ.out.block _ s2.out]; exact G2.out)
  have FR : Hid (Calls Try.prog 62 #[.pointer (some ⟨l, 0, none⟩)] Z.drew fun e w' => e = .returned (.int .i64 (F : Int)) ∧ Below Z.heap.size Z w') := Lib.hid (by
    refine (free_any (WZ.out.lg.below (below_drawn Z 1))).mono ?_
    rintro e w' ⟨rfl, hb⟩
    exact ⟨by rw [HES.out.2.2]; rfl, ⟨hb.os, hb.tape, hb.output, hb.size, hb.block⟩⟩)
  have b1 : ((es : Int) != (es : Int)) = false := by simp
  have b2 : decide (ge < (old : Int)) = false := decide_eq_false (by omega)
  have b3 : decide (ge > (ep : Int)) = false := decide_eq_false (by omega)
  have b4 : decide ((1 : Int) > (F : Int)) = false := decide_eq_false (by omega)
  have b4' : ¬ F = 0 := by omega
  have b4'' : ¬ F < 1 := by omega
  have B0 : Hid (Below Z.heap.size Z Z.drew) := Lib.hid (below_drawn Z 1)
  have hZ' := hZ.symm
  have hY' := hY.symm
  have HGD := Lib.hid hgd
  clear hZ hY GZ0 hgd
  go_wp2_with (refine wpList_store_row rfl 23 (.tmp 7) (.tmp 17) rfl w2.heap.size g.arr rfl rfl 23 zeroG.arr GY.out size_group rfl (arr_one _) ?_; rw [hZ'])
  go_region_held (fun W : World => W.cell? ⟨w2.heap.size, 0, none⟩ = some (.int .i64 ge) ∧ W.cell? ⟨w2.heap.size, 1, none⟩ = some (.int .i64 (es : Int)) ∧ W.cell? ⟨w2.heap.size, 2, none⟩ = some (.int .i64 0) ∧ W.cell? ⟨w2.heap.size, 3, none⟩ = some (.int .i64 1) ∧ W.cell? ⟨l, 6, none⟩ = some (.int .i64 (es : Int)) ∧ W.cell? ⟨l, 3, none⟩ = some (.int .i64 (ep : Int))) (first | exact CS.out _ hB3 | exact CS.out _ B0.out) (first | (go_at_call 62; refine FR.out.mono ?_; rintro r w3 ⟨rfl, hB3⟩))
  have B3 : Hid (Below Z.heap.size Z w3) := Lib.hid hB3
  clear hB3 CS FR B0
  have G3 : Hid (w3.heap[w2.heap.size]? = some (.cells g.arr 23 (0, 0))) := Lib.hid (by rw [B3.out.block _ (lt_of_heap GZ.out)]; exact GZ.out)
  obtain ⟨V, hV⟩ : ∃ V, V = w3.alloc (.cells #[.int .i64 0, .int .i64 0, .int .i64 0, .int .i64 0, .int .i64 0] 23) := ⟨_, rfl⟩
  have GV : Hid (V.heap[w3.heap.size]? = some (.cells zeroG.arr 23 (0, 0))) := Lib.hid (by rw [hV]; exact heap_alloc_new _ _)
  have BV : Hid (Below w3.heap.size w3 V) := Lib.hid (by rw [hV]; exact (Below.refl _ _).alloc (Nat.le_refl _) _)
  obtain ⟨U, hU⟩ : ∃ U, U = V.setRow w3.heap.size g.arr := ⟨_, rfl⟩
  have GU : Hid (U.heap[w3.heap.size]? = some (.cells g.arr 23 (0, 0))) := Lib.hid (by rw [hU]; exact setRow_heap _ _ _ _ _ _ GV.out)
  have BU : Hid (Below w3.heap.size w3 U) := Lib.hid (by rw [hU]; exact below_setRow BV.out (Nat.le_refl _) _)
  have GU7 : Hid (U.heap[w2.heap.size]? = some (.cells g.arr 23 (0, 0))) := Lib.hid (by rw [BU.out.block _ (lt_of_heap G3.out)]; exact G3.out)
  have u2 : U.cell? ⟨w3.heap.size, 2, none⟩ = some (.int .i64 0) := by rw [cell_of_row U _ 2 _ _ _ GU.out, GA.out]; rfl
  have u3 : U.cell? ⟨w2.heap.size, 3, none⟩ = some (.int .i64 1) := by rw [cell_of_row U _ 3 _ _ _ GU7.out, GA.out]; rfl
  have BU' : Hid (Below Z.heap.size Z U) := Lib.hid (B3.out.trans (BU.out.mono B3.out.size))
  have GU4 : Hid (U.heap[w.heap.size]? = some (.cells zeroG.arr 23 (0, 0))) := Lib.hid (by rw [BU'.out.block _ (lt_of_heap GZ'.out)]; exact GZ'.out)
  have hV' := hV.symm
  have hU' := hU.symm
  clear hV hU
  go_wp2_with first | (refine wpList_load_row rfl 23 (.tmp 7) rfl w2.heap.size rfl 23 g.arr (0, 0) _ G3.out Try.underlying23 rfl size_group ?_) | (refine wpList_store_row rfl 23 (.tmp 10) (.tmp 60) rfl w3.heap.size g.arr rfl rfl 23 zeroG.arr GV.out size_group rfl (arr_one _) ?_; rw [hU'])
  refine wp_loop_rounds 1 ?_
  rw [rounds_succ]
  go_wp2_with first | (refine wpList_load_row rfl 23 (.tmp 7) rfl w2.heap.size rfl 23 g.arr (0, 0) _ GU7.out Try.underlying23 rfl size_group ?_) | (refine wpList_store_row rfl 23 (.tmp 4) (.tmp 94) rfl w.heap.size g.arr rfl rfl 23 zeroG.arr GU4.out size_group rfl (arr_one _) ?_)
  have hr := setRow_heap U w.heap.size zeroG.arr g.arr _ _ GU4.out
  have KU := kept_setRow U w.heap.size g.arr
  have WU : Wl B U d mb mp cv (rd1 ds) l pv s := WZ.out.below BU'.out
  have lw : ∀ k, Foot d mb mp cv k → ¬ k = w.heap.size := fun k hk e => by have := (H.out.dv.foot_lt k hk).2; omega
  have ll : l ≠ w.heap.size := by have := lt_of_heap H.out.lg.self; omega
  have lp : ∀ k, pv.ownBlock = some k → ¬ k = w.heap.size := fun k hk e => by have := (H.out.lg.pay.lt k hk).2; omega
  rw [← HGD.out]
  have hX1 : w.heap.size < X.heap.size := lt_of_heap GX.out
  have oU : Own X.heap.size U vp p := (F2.out.2.2.below BZ.out).below BU'.out
  refine bodyPost_ret (results_cell2 rfl _ _ ⟨w.heap.size, 0, none⟩ (.agg g.arr) rfl (load_group _ _ g hr)) rfl ⟨vp, rfl, (oU.kept KU (fun k hk e => by have := (oU.lt k hk).1; omega)).mono (by omega), ⟨WU.dv.kept KU lw, WU.lg.kept KU ll lp⟩, ?_⟩
  have k1 : Kept (fun k => k = d) w X := Below.kept BX.out _
  have k2 := k1.trans F2.out.2.1 (fun _ _ q => q)
  have k3 := k2.trans (Below.kept BZ.out (fun _ => False)) (fun _ _ q => q.elim)
  have k4 := k3.trans (Below.kept BU'.out (fun _ => False)) (fun _ _ q => q.elim)
  exact k4.trans KU (fun x hx q => by omega)
end Go.Proofs.Ytfljbipnjfciaab
