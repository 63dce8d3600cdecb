/-
  block.
-/
import Derived.Test.YtfljbipnjfciaabWaL
namespace Go.Proofs.Ytfljbipnjfciaab
open Go.RowKit Go.Maps
variable {B : Nat} {w W W' : World} {d mb mp : Nat} {cv : Value} {ds : DS} {l : Nat} {pv : Value} {s : LS}
theorem rdB_length (h : Fit ds) (b : Nat) (hb : b < ds.n) : (rdB ds b).length = 512 := by
  unfold rdB
  cases hl : lastIx b ds.cache 0 with
  | none => exact raw_length _ _ (by rw [h.len]; omega)
  | some i =>
    obtain ⟨_, _, x, hx, _⟩ := lastIx_lt b ds.cache 0 i hl
    have hx' : ds.cache[i]? = some x := by simpa using hx
    show (ds.cache.getD i (0, [])).2.length = 512
    rw [List.getD_eq_getElem?_getD, hx']
    exact (h.ok x (List.mem_of_getElem? hx')).2
/-- The device, one read on. -/
def rd1 (ds : DS) : DS := { ds with cr := up ds.cr }
theorem rdD_ok (hd : ds.down = false) (b : Nat) (hb : b < ds.n) : rdD ds (b : Int) = (rd1 ds, rdB ds b, 0) := by
  have h1 : hasB ds (b : Int) = true := by unfold hasB; rw [Bool.and_eq_true, decide_eq_true_iff, decide_eq_true_iff]; omega
  unfold rdD
  rw [if_neg (by rw [h1]; simp), if_neg (by rw [hd]; simp)]
  rfl
set_option maxRecDepth 100000 in
set_option maxHeartbeats 4000000 in
theorem block_any (h : Wl B w d mb mp cv ds l pv s) (hdn : ds.down = false) (hn : s.fst + s.n ≤ ds.n) (k : Nat) (hk : k ≤ 512) : Calls Try.prog 95 #[.pointer (some ⟨l, 0, none⟩), .int .i64 (k : Int)] w fun e w' => ∃ vp, e = .returned (.tuple #[.agg (unR (rdB ds (s.at k))).1.arr, vp, .int .i64 0]) ∧ Own w.heap.size w' vp (unR (rdB ds (s.at k))).2.1 ∧ Wl B w' d mb mp cv (rd1 ds) l pv s ∧ Kept (fun k => k = d) w w' := by
  have H := Lib.hid h
  have hat : s.at k < ds.n := by
    unfold LS.at
    have := Nat.mod_lt (s.ea + k) (show 0 < s.n by have := h.lg.fit.lo; omega)
    omega
  obtain ⟨pb, hpb⟩ : ∃ pb, pb = s.at k := ⟨_, rfl⟩
  rw [← hpb] at hat ⊢
  obtain ⟨bs, hbs⟩ : ∃ bs, bs = rdB ds pb := ⟨_, rfl⟩
  rw [← hbs]
  have BL : Hid (bs.length = 512) := Lib.hid (by rw [hbs]; exact rdB_length h.dv.fit pb hat)
  have RD := Lib.hid (rdD_ok hdn pb hat)
  rw [← hbs] at RD
  obtain ⟨R, hR⟩ : ∃ R, R = unR bs := ⟨_, rfl⟩
  have HR := Lib.hid hR
  rw [← hR]
  obtain ⟨X, hX⟩ : ∃ X, X = w.alloc (.cells #[.int .i64 0, .int .i64 0, .int .i64 0, .int .i64 0, .int .i64 0] 23) := ⟨_, rfl⟩
  have BX : Hid (Below w.heap.size w X) := Lib.hid (by rw [hX]; exact (Below.refl _ _).alloc (Nat.le_refl _) _)
  have GX : Hid (X.heap[w.heap.size]? = some (.cells zeroG.arr 23 (0, 0))) := Lib.hid (by rw [hX]; exact heap_alloc_new _ _)
  have WX : Hid (Wl B X d mb mp cv ds l pv s) := Lib.hid (h.below BX.out)
  have PLC : Hid (Calls Try.prog 86 #[.pointer (some ⟨l, 0, none⟩), .int .i64 (k : Int)] X.drew fun e w' => e = .returned (.int .i64 (pb : Int)) ∧ Below X.heap.size X w') := Lib.hid (by
    refine (place_any (WX.out.lg.below (below_drawn X 1)) k hk).mono ?_
    rintro e w' ⟨rfl, hb⟩
    exact ⟨by rw [hpb]; rfl, ⟨hb.os, hb.tape, hb.output, hb.size, hb.block⟩⟩)
  have REA : Hid (∀ W, Below X.heap.size X W → Calls Try.prog 102 #[.pointer (some ⟨d, 0, none⟩), .int .i64 (pb : Int)] W fun e w' => ∃ v, e = .returned (.tuple #[v, .int .i64 0]) ∧ Own X.heap.size w' v bs ∧ Wl B w' d mb mp cv (rd1 ds) l pv s ∧ Kept (fun k => k = d) X w') := Lib.hid (fun W hb => by
    have wW := WX.out.below hb
    refine (read_any wW.dv (pb : Int)).mono ?_
    rintro e w' ⟨v, rfl, ho, hd, hk⟩
    rw [RD.out] at ho hd ⊢
    exact ⟨v, rfl, ho.mono hb.size, wW.dev hd (hk.mono (fun _ _ q => .inl q)), (Below.kept hb _).trans hk (fun _ _ q => q)⟩)
  have CS : Hid (∀ W c x, Wl B W d mb mp c x l pv s → W.cell? ⟨l, 0, none⟩ = some (.pointer (some ⟨d, 0, none⟩))) := Lib.hid (fun W c x h => h.lg.cell 0)
  have dX : Hid (w.heap.size ≠ d) := Lib.hid (by have := (h.dv.foot_lt d (.inl rfl)).2; omega)
  have hX' := hX.symm
  clear h hdn hn hpb hbs hR hX
  go_enter Try.func95, Try.ntmps95
  go_wp2_with fail
  go_region_held (fun W : World => W.cell? ⟨l, 0, none⟩ = some (.pointer (some ⟨d, 0, none⟩))) (first | exact CS.out _ _ _ hw5 | exact CS.out _ _ _ (WX.out.below hB4) | exact CS.out _ _ _ (WX.out.below (below_drawn X 1))) (first | (go_at_call 86; refine PLC.out.mono ?_; rintro r w4 ⟨rfl, hB4⟩) | (go_at_call 102; refine (REA.out _ hB4).mono ?_; rintro r w5 ⟨v5, rfl, hO5, hw5, hk5⟩))
  have F5 := Lib.hid (And.intro hO5 (And.intro hw5 hk5))
  clear hO5 hw5 hk5 hB4 PLC REA CS
  have UN := Lib.hid (unblock_any v5 bs w5 F5.out.1.bytes BL.out)
  rw [← HR.out] at UN
  have G5 : Hid (w5.heap[w.heap.size]? = some (.cells zeroG.arr 23 (0, 0))) := Lib.hid (by rw [F5.out.2.2.block _ (lt_of_heap GX.out) dX.out]; exact GX.out)
  go_wp2_with fail
  refine UN.out.mono ?_
  rintro r w6 ⟨vp, rfl, ho6, hb6⟩
  have F6 := Lib.hid (And.intro ho6 hb6)
  have G6 : Hid (w6.heap[w.heap.size]? = some (.cells zeroG.arr 23 (0, 0))) := Lib.hid (by rw [hb6.block _ (lt_of_heap G5.out)]; exact G5.out)
  obtain ⟨Y, hY⟩ : ∃ Y, Y = w6.alloc (.cells #[.int .i64 0, .int .i64 0, .int .i64 0, .int .i64 0, .int .i64 0] 23) := ⟨_, rfl⟩
  have GY : Hid (Y.heap[w6.heap.size]? = some (.cells zeroG.arr 23 (0, 0))) := Lib.hid (by rw [hY]; exact heap_alloc_new _ _)
  have BY : Hid (Below w6.heap.size w6 Y) := Lib.hid (by rw [hY]; exact (Below.refl _ _).alloc (Nat.le_refl _) _)
  have hY' := hY.symm
  clear ho6 hb6 UN hY G5
  obtain ⟨rg, rp, rc⟩ := R
  simp only at F6 ⊢
  have s6 : Hid (w.heap.size < w6.heap.size) := Lib.hid (lt_of_heap G6.out)
  obtain ⟨Z, hZ⟩ : ∃ Z, Z = Y.setRow w6.heap.size rg.arr := ⟨_, rfl⟩
  have GZ : Hid (Z.heap[w6.heap.size]? = some (.cells rg.arr 23 (0, 0))) := Lib.hid (by rw [hZ]; exact setRow_heap _ _ _ _ _ _ GY.out)
  have GZ4 : Hid (Z.heap[w.heap.size]? = some (.cells zeroG.arr 23 (0, 0))) := Lib.hid (by rw [hZ, setRow_other _ _ _ _ (by have := s6.out; omega), BY.out.block _ s6.out]; exact G6.out)
  have BZ : Hid (Below w6.heap.size w6 Z) := Lib.hid (by rw [hZ]; exact below_setRow BY.out (Nat.le_refl _) _)
  have hZ' := hZ.symm
  clear hZ
  go_wp2_with first | (refine wpList_store_row rfl 23 (.tmp 9) (.tmp 30) rfl w6.heap.size rg.arr rfl rfl 23 zeroG.arr GY.out size_group rfl (arr_one _) ?_; rw [hZ']) | (refine wpList_load_row rfl 23 (.tmp 9) rfl w6.heap.size rfl 23 rg.arr (0, 0) _ GZ.out Try.underlying23 rfl size_group ?_) | (refine wpList_store_row rfl 23 (.tmp 4) (.tmp 33) rfl w.heap.size rg.arr rfl rfl 23 zeroG.arr GZ4.out size_group rfl (arr_one _) ?_)
  have hr := setRow_heap Z w.heap.size zeroG.arr rg.arr _ _ GZ4.out
  have KZ := kept_setRow Z w.heap.size rg.arr
  have bw : Hid (w.heap.size ≤ w5.heap.size) := Lib.hid (by have := BX.out.size; have := F5.out.2.2.size; omega)
  have W6 : Wl B w6 d mb mp cv (rd1 ds) l pv s := F5.out.2.1.below F6.out.2
  have W7 : Wl B Z d mb mp cv (rd1 ds) l pv s := W6.below BZ.out
  have lw : ∀ k, Foot d mb mp cv k → ¬ k = w.heap.size := fun k hk e => by have := (H.out.dv.foot_lt k hk).2; omega
  have ll : l ≠ w.heap.size := by have := lt_of_heap H.out.lg.self; omega
  have lp : ∀ k, pv.ownBlock = some k → ¬ k = w.heap.size := fun k hk e => by have := (H.out.lg.pay.lt k hk).2; omega
  refine bodyPost_ret (results_cell2 rfl _ _ ⟨w.heap.size, 0, none⟩ (.agg rg.arr) rfl (load_group _ _ rg hr)) rfl ⟨vp, rfl, ?_, ⟨W7.dv.kept KZ lw, W7.lg.kept KZ ll lp⟩, ?_⟩
  · have o7 : Own w5.heap.size Z vp rp := F6.out.1.below BZ.out
    have hX1 : w.heap.size < w5.heap.size := by have := F5.out.2.2.size; have := lt_of_heap GX.out; omega
    exact (o7.kept KZ (fun k hk e => by have := (o7.lt k hk).1; omega)).mono bw.out
  · have k1 : Kept (fun k => k = d) w X := Below.kept BX.out _
    have k2 := k1.trans F5.out.2.2 (fun _ _ q => q)
    have k3 := k2.trans (Below.kept F6.out.2 (fun _ => False)) (fun _ _ q => q.elim)
    have k4 := k3.trans (Below.kept BZ.out (fun _ => False)) (fun _ _ q => q.elim)
    exact k4.trans KZ (fun x hx q => by omega)
end Go.Proofs.Ytfljbipnjfciaab
