/-
  Encode, Decode.
-/
import Derived.Test.YtbdlebengmbooaaAnS
import Derived.Test.YtbdlebengmbooaaAnL
import Derived.Test.YtbdlebengmbooaaAnVv
namespace Go.Proofs.Ytbdlebengmbooaa
open Go.RowKit Go.Maps
set_option maxRecDepth 100000 in
set_option maxHeartbeats 4000000 in
theorem enc_with (s : Sup) (w : World) : Calls Try.prog 25 #[.agg s.arr] w fun e w' => if vaB s s.blk = true then ∃ gb, e = .returned (.tuple #[.slice (some ⟨gb, 0, none⟩) 512 512, .int .i64 0]) ∧ Own w.heap.size w' (.slice (some ⟨gb, 0, none⟩) 512 512) (layA s) ∧ Below w.heap.size w w' else e = .returned (.tuple #[.slice none 0 0, .int .i64 1]) ∧ Below w.heap.size w w' := by
  obtain ⟨X, hX⟩ : ∃ X, X = w.alloc (.cells s.arr 34) := ⟨_, rfl⟩
  obtain ⟨gx, hgx⟩ : ∃ gx, gx = w.heap.size := ⟨_, rfl⟩
  have BX : Hid (Below w.heap.size w X) := Lib.hid (by rw [hX]; exact (Below.refl _ _).alloc (Nat.le_refl _) _)
  have GX : Hid (X.heap[gx]? = some (.cells s.arr 34 (0, 0))) := Lib.hid (by rw [hgx, hX]; exact heap_alloc_new _ _)
  have GW : Hid (∀ W : World, Below X.heap.size X W → W.heap[gx]? = some (.cells s.arr 34 (0, 0))) := Lib.hid (fun W h => (h.block gx (lt_of_heap GX.out)).trans GX.out)
  have KS : Hid (∀ W : World, Below X.heap.size X W → W.cell? ⟨gx, 0, none⟩ = some (.int .i64 s.gen) ∧ W.cell? ⟨gx, 1, none⟩ = some (.int .i64 s.ep) ∧ W.cell? ⟨gx, 2, none⟩ = some (.int .i64 s.blk) ∧ W.cell? ⟨gx, 3, none⟩ = some (.int .i64 s.log) ∧ W.cell? ⟨gx, 4, none⟩ = some (.int .i64 s.st) ∧ W.cell? ⟨gx, 5, none⟩ = some (.int .i64 s.pl) ∧ W.cell? ⟨gx, 6, none⟩ = some (.int .i64 s.rt) ∧ W.cell? ⟨gx, 7, none⟩ = some (.int .i64 s.cnt) ∧ W.cell? ⟨gx, 8, none⟩ = some (.int .i64 s.ver)) := Lib.hid (fun W h => sup_cells (GW.out W h))
  have VA : Hid (Calls Try.prog 26 #[.agg s.arr, .int .i64 s.blk] X fun e w' => e = .returned (.bool (vaB s s.blk)) ∧ Below X.heap.size X w') := Lib.hid (valid_any s s.blk X)
  have LY : Hid (vaB s s.blk = true → ∀ W, Below X.heap.size X W → Calls Try.prog 30 #[.agg s.arr] W fun q w' => ∃ gb, q = .returned (.slice (some ⟨gb, 0, none⟩) 512 512) ∧ Own w.heap.size w' (.slice (some ⟨gb, 0, none⟩) 512 512) (layA s) ∧ Below w.heap.size w w') := Lib.hid (fun hv W hb => (lay_any s ((vd_iff s).1 hv) W).mono (fun q w' ⟨gb, h1, h2, h3⟩ => ⟨gb, h1, h2.mono (Nat.le_trans BX.out.size hb.size), (BX.out.trans (hb.mono BX.out.size)).trans (h3.mono (Nat.le_trans BX.out.size hb.size))⟩))
  have XX : Hid (Below X.heap.size X X) := Lib.hid (Below.refl _ _)
  obtain ⟨xv, hxv⟩ : ∃ p, p = vaB s s.blk := ⟨_, rfl⟩
  rw [← hxv] at VA LY ⊢
  obtain ⟨LL, hLL⟩ : ∃ L, L = layA s := ⟨_, rfl⟩
  rw [← hLL] at LY ⊢
  have sarr : s.arr = #[.int .i64 s.gen, .int .i64 s.ep, .int .i64 s.blk, .int .i64 s.log, .int .i64 s.st, .int .i64 s.pl, .int .i64 s.rt, .int .i64 s.cnt, .int .i64 s.ver] := rfl
  rw [sarr] at VA LY hX ⊢
  have hX' := hX.symm
  have hgx' := hgx.symm
  obtain ⟨y0, y1, y2, y3, y4, y5, y6, y7, y8⟩ := KS.out X XX.out
  clear hX hgx GX GW hxv hLL sarr
  obtain ⟨xgen, xep, xblk, xlog, xst, xpl, xrt, xcnt, xver⟩ := s
  simp only at *
  cases xv with
  | false =>
    clear LY
    simp only [Bool.false_eq_true, if_false]
    go_enter Try.func25, Try.ntmps25
    go_wp2_with (first | (go_at_call 26; refine VA.out.mono ?_; rintro e w1 ⟨rfl, b1⟩; have B1 := Lib.hid b1; clear b1))
    go_ret2
    exact ⟨rfl, BX.out.trans (B1.out.mono BX.out.size)⟩
  | true =>
    simp only [if_true]
    have LZ := Lib.hid (LY.out rfl)
    clear LY
    go_enter Try.func25, Try.ntmps25
    go_wp2_with (first | (go_at_call 26; refine VA.out.mono ?_; rintro e w1 ⟨rfl, b1⟩; have B1 := Lib.hid b1; clear b1; obtain ⟨z0, z1, z2, z3, z4, z5, z6, z7, z8⟩ := KS.out w1 B1.out) | (go_at_call 30; refine (LZ.out _ B1.out).mono ?_; rintro q w2 ⟨gb, rfl, ho, hb⟩; have O2 := Lib.hid (And.intro ho hb); clear ho hb))
    go_ret2
    exact ⟨gb, rfl, O2.out.1, O2.out.2⟩
theorem enc_no (s : Sup) (w : World) (h : vaB s s.blk = false) : Calls Try.prog 25 #[.agg s.arr] w fun e w' => e = .returned (.tuple #[.slice none 0 0, .int .i64 1]) ∧ Below w.heap.size w w' := by
  have := enc_with s w
  rw [h] at this
  exact this
theorem enc_yes (s : Sup) (w : World) (h : vaB s s.blk = true) : Calls Try.prog 25 #[.agg s.arr] w fun e w' => ∃ gb, e = .returned (.tuple #[.slice (some ⟨gb, 0, none⟩) 512 512, .int .i64 0]) ∧ Own w.heap.size w' (.slice (some ⟨gb, 0, none⟩) 512 512) (layA s) ∧ Below w.heap.size w w' := by
  have := enc_with s w
  rw [h] at this
  exact this
set_option maxHeartbeats 400000 in
theorem equal_any (v v' : Value) (l m : List UInt8) (w : World) (hv : Bytes w v l) (hv' : Bytes w v' m) :
    Calls Try.prog 60 #[v, v'] w fun e w' => e = .returned (.bool (decide (l = m))) ∧ w' = w := by
  have h1 := convT hv
  have h2 := convT hv'
  go_enter Try.func60, Try.ntmps60
  go_wp2
  go_ret
  exact ⟨congrArg (fun b => Ending.returned (.bool b)) (txt_beq l m), rfl⟩
theorem results_cell1 {fn : Func} {p u : Tmp} {ty : TypeId} (h : fn.results = #[.cell p ty, .tmp u]) (tmps : Array Value) (w : World) (ad : Addr) (x : Value)
    (hp : tmps.getD p undef = .pointer (some ad)) (hl : (loadVar ty ad).run Try.prog w = .ok x w) :
    (results fn tmps).run Try.prog w = .ok (.tuple #[x, tmps.getD u undef]) w := by
  have hp' : tmps[p]?.getD undef = .pointer (some ad) := by simpa using hp
  simp [results, h, hp', asAddr, hl, Result.andThen]
/-- What Decode answers. -/
def decR (b : List UInt8) : Sup × Int := if b.length ≠ 512 then (zeroS, 61) else if vaB (seA b) (seA b).blk = true ∧ layA (seA b) = b then (seA b, 0) else (zeroS, 2)
set_option maxHeartbeats 400000 in
theorem dec_short (v : Value) (b : List UInt8) (w : World) (hv : Bytes w v b) (hl : b.length ≠ 512) : Calls Try.prog 43 #[v] w fun e w' => e = .returned (.tuple #[.agg zeroS.arr, .int .i64 61]) ∧ Below w.heap.size w w' := by
  obtain ⟨a, cap, rfl, hlc, hcm, hn, hc⟩ := hv
  unfold maxLen at hcm
  have hne : ((b.length : Int) != 512) = true := by rw [bne_iff_ne]; omega
  obtain ⟨n, hnn⟩ : ∃ n, n = b.length := ⟨_, rfl⟩
  rw [← hnn] at hne hlc ⊢
  clear hc hn hnn
  go_enter Try.func43, Try.ntmps43
  go_wp2_with fail
  refine bodyPost_ret (results_cell1 rfl _ _ ⟨w.heap.size, 0, none⟩ (.agg zeroS.arr) rfl (load_super _ _ zeroS ?_)) rfl ⟨rfl, ?_⟩
  · exact heap_alloc_new _ _
  · exact (Below.refl _ _).alloc (Nat.le_refl _) _
set_option maxRecDepth 100000 in
set_option maxHeartbeats 8000000 in
theorem dec_full (v : Value) (b : List UInt8) (w : World) (hv : Bytes w v b) (hl : b.length = 512) : Calls Try.prog 43 #[v] w fun e w' => e = .returned (.tuple #[.agg (decR b).1.arr, .int .i64 (decR b).2]) ∧ Below w.heap.size w w' := by
  obtain ⟨RR, hRR⟩ : ∃ RR, RR = decR b := ⟨_, rfl⟩
  rw [← hRR]
  have HR : Hid (RR = if vaB (seA b) (seA b).blk = true ∧ layA (seA b) = b then (seA b, 0) else (zeroS, 2)) := Lib.hid (by rw [hRR]; unfold decR; rw [if_neg (by rw [hl]; simp)])
  clear hRR
  have V := Lib.hid hv
  obtain ⟨a, cap, rfl, hlc, hcm, hn, hc⟩ := hv
  unfold maxLen at hcm
  rw [hl] at hlc V ⊢
  have HL := Lib.hid hl
  obtain ⟨s, hs⟩ : ∃ s, s = seA b := ⟨_, rfl⟩
  rw [← hs] at HR
  have SS := Lib.hid hs
  obtain ⟨X, hX⟩ : ∃ X, X = w.alloc (.cells #[.int .i64 0, .int .i64 0, .int .i64 0, .int .i64 0, .int .i64 0, .int .i64 0, .int .i64 0, .int .i64 0, .int .i64 0] 34) := ⟨_, rfl⟩
  obtain ⟨gr, hgr⟩ : ∃ g, g = w.heap.size := ⟨_, rfl⟩
  have BX : Hid (Below w.heap.size w X) := Lib.hid (by rw [hX]; exact (Below.refl _ _).alloc (Nat.le_refl _) _)
  have GX : Hid (X.heap[gr]? = some (.cells zeroS.arr 34 (0, 0))) := Lib.hid (by rw [hgr, hX]; exact heap_alloc_new _ _)
  have SE : Hid (Calls Try.prog 59 #[.slice a 512 cap] X fun e w' => e = .returned (.agg #[.int .i64 s.gen, .int .i64 s.ep, .int .i64 s.blk, .int .i64 s.log, .int .i64 s.st, .int .i64 s.pl, .int .i64 s.rt, .int .i64 s.cnt, .int .i64 s.ver]) ∧ Below X.heap.size X w') := Lib.hid (by have := seeming_any _ b X (V.out.below BX.out) HL.out; rw [← hs] at this; exact this)
  have hX' := hX.symm
  have hgr' := hgr.symm
  have GR := Lib.hid hgr
  clear hX hgr hl hn hc hs
  go_enter Try.func43, Try.ntmps43
  go_wp2_with fail
  refine SE.out.mono ?_
  rintro e w1 ⟨rfl, b1⟩
  obtain ⟨Y, hY⟩ : ∃ Y, Y = w1.alloc (.cells #[.int .i64 s.gen, .int .i64 s.ep, .int .i64 s.blk, .int .i64 s.log, .int .i64 s.st, .int .i64 s.pl, .int .i64 s.rt, .int .i64 s.cnt, .int .i64 s.ver] 34) := ⟨_, rfl⟩
  obtain ⟨gs, hgs⟩ : ∃ g, g = w1.heap.size := ⟨_, rfl⟩
  have BY : Hid (Below w.heap.size w Y ∧ Below X.heap.size X Y) := Lib.hid (by
    have h1 : Below w1.heap.size w1 Y := by rw [hY]; exact (Below.refl _ _).alloc (Nat.le_refl _) _
    have h2 : Below X.heap.size X Y := b1.trans (h1.mono b1.size)
    exact ⟨BX.out.trans (h2.mono BX.out.size), h2⟩)
  have GY : Hid (Y.heap[gs]? = some (.cells s.arr 34 (0, 0)) ∧ Y.heap[gr]? = some (.cells zeroS.arr 34 (0, 0)) ∧ gr ≠ gs ∧ gr = w.heap.size) := Lib.hid (by
    refine ⟨by rw [hgs, hY]; exact heap_alloc_new _ _, by rw [BY.out.2.block gr (lt_of_heap GX.out)]; exact GX.out, ?_, GR.out⟩
    have := lt_of_heap GX.out
    have := b1.size
    omega)
  have hY' := hY.symm
  have hgs' := hgs.symm
  have EN := Lib.hid (enc_with s Y)
  have KS : Hid (∀ W : World, Below Y.heap.size Y W → (W.cell? ⟨gs, 0, none⟩ = some (.int .i64 s.gen) ∧ W.cell? ⟨gs, 1, none⟩ = some (.int .i64 s.ep) ∧ W.cell? ⟨gs, 2, none⟩ = some (.int .i64 s.blk) ∧ W.cell? ⟨gs, 3, none⟩ = some (.int .i64 s.log) ∧ W.cell? ⟨gs, 4, none⟩ = some (.int .i64 s.st) ∧ W.cell? ⟨gs, 5, none⟩ = some (.int .i64 s.pl) ∧ W.cell? ⟨gs, 6, none⟩ = some (.int .i64 s.rt) ∧ W.cell? ⟨gs, 7, none⟩ = some (.int .i64 s.cnt) ∧ W.cell? ⟨gs, 8, none⟩ = some (.int .i64 s.ver)) ∧ W.heap[gs]? = some (.cells s.arr 34 (0, 0)) ∧ W.heap[gr]? = some (.cells zeroS.arr 34 (0, 0)) ∧ Below w.heap.size w W ∧ Bytes W (.slice a 512 cap) b) := Lib.hid (fun W h => by
    have h1 : W.heap[gs]? = some (.cells s.arr 34 (0, 0)) := by rw [h.block gs (lt_of_heap GY.out.1)]; exact GY.out.1
    have h2 := BY.out.1.trans (h.mono BY.out.1.size)
    exact ⟨sup_cells h1, h1, by rw [h.block gr (lt_of_heap GY.out.2.1)]; exact GY.out.2.1, h2, V.out.below h2⟩)
  obtain ⟨⟨y0, y1, y2, y3, y4, y5, y6, y7, y8⟩, -⟩ := KS.out Y (Below.refl _ _)
  have sarr : s.arr = #[.int .i64 s.gen, .int .i64 s.ep, .int .i64 s.blk, .int .i64 s.log, .int .i64 s.st, .int .i64 s.pl, .int .i64 s.rt, .int .i64 s.cnt, .int .i64 s.ver] := rfl
  rw [sarr] at EN
  clear hY hgs b1 SE hX' hgr' BX GX sarr SS
  obtain ⟨xgen, xep, xblk, xlog, xst, xpl, xrt, xcnt, xver⟩ := s
  simp only at *
  cases hv : vaB (Sup.mk xgen xep xblk xlog xst xpl xrt xcnt xver) xblk with
  | false =>
    have EN' : Hid (Calls Try.prog 25 #[.agg #[.int .i64 xgen, .int .i64 xep, .int .i64 xblk, .int .i64 xlog, .int .i64 xst, .int .i64 xpl, .int .i64 xrt, .int .i64 xcnt, .int .i64 xver]] Y fun e w' => e = .returned (.tuple #[.slice none 0 0, .int .i64 1]) ∧ Below Y.heap.size Y w') := Lib.hid (by have := EN.out; rw [hv] at this; exact this)
    have HE : Hid (RR = (zeroS, 2)) := Lib.hid (by rw [HR.out, hv, if_neg (by simp)])
    clear EN hv HR
    go_wp2_with (first | (go_at_call 25; refine EN'.out.mono ?_; rintro e w2 ⟨rfl, b2⟩; have B2 := Lib.hid (KS.out w2 b2).2; clear b2) | (refine wpList_store_row rfl 34 (.tmp 2) (.tmp 26) rfl gr zeroS.arr rfl rfl 34 zeroS.arr B2.out.2.1 size_super rfl (arr_one _) ?_))
    rw [HE.out]
    refine bodyPost_ret (results_cell1 rfl _ _ ⟨gr, 0, none⟩ (.agg zeroS.arr) rfl (load_super _ _ zeroS (setRow_heap _ _ _ _ _ _ B2.out.2.1))) rfl ⟨rfl, ?_⟩
    exact below_setRow B2.out.2.2.1 (by rw [GY.out.2.2.2]; exact Nat.le_refl _) _
  | true =>
    have EN' : Hid (Calls Try.prog 25 #[.agg #[.int .i64 xgen, .int .i64 xep, .int .i64 xblk, .int .i64 xlog, .int .i64 xst, .int .i64 xpl, .int .i64 xrt, .int .i64 xcnt, .int .i64 xver]] Y fun e w' => ∃ gb, e = .returned (.tuple #[.slice (some ⟨gb, 0, none⟩) 512 512, .int .i64 0]) ∧ Own Y.heap.size w' (.slice (some ⟨gb, 0, none⟩) 512 512) (layA (Sup.mk xgen xep xblk xlog xst xpl xrt xcnt xver)) ∧ Below Y.heap.size Y w') := Lib.hid (by have := EN.out; rw [hv] at this; exact this)
    by_cases hle : layA (Sup.mk xgen xep xblk xlog xst xpl xrt xcnt xver) = b
    · have EQ : Hid (∀ W u u', Bytes W u (layA (Sup.mk xgen xep xblk xlog xst xpl xrt xcnt xver)) → Bytes W u' b → Calls Try.prog 60 #[u, u'] W fun e w' => e = .returned (.bool true) ∧ w' = W) := Lib.hid (fun W u u' h1 h2 => by have := equal_any u u' _ _ W h1 h2; rw [decide_eq_true hle] at this; exact this)
      have HE : Hid (RR = ((Sup.mk xgen xep xblk xlog xst xpl xrt xcnt xver), 0)) := Lib.hid (by rw [HR.out, hv, if_pos ⟨rfl, hle⟩])
      clear EN hv HR hle
      go_wp2_with (first | (go_at_call 25; refine EN'.out.mono ?_; rintro e w2 ⟨gb, rfl, o2, b2⟩; have O2 := Lib.hid o2.bytes; obtain ⟨⟨z0, z1, z2, z3, z4, z5, z6, z7, z8⟩, b2'⟩ := KS.out w2 b2; have B2 := Lib.hid b2'; clear o2 b2 b2') | (go_at_call 60; refine (EQ.out _ _ _ O2.out B2.out.2.2.2).mono ?_; rintro e w3 ⟨rfl, rfl⟩) | (refine wpList_load_row rfl 34 (.tmp 4) rfl gs rfl 34 (Sup.mk xgen xep xblk xlog xst xpl xrt xcnt xver).arr (0, 0) _ B2.out.1 Try.underlying34 rfl size_super ?_) | (refine wpList_store_row rfl 34 (.tmp 2) (.tmp 27) rfl gr (Sup.mk xgen xep xblk xlog xst xpl xrt xcnt xver).arr rfl rfl 34 zeroS.arr B2.out.2.1 size_super rfl (arr_one _) ?_))
      rw [HE.out]
      refine bodyPost_ret (results_cell1 rfl _ _ ⟨gr, 0, none⟩ (.agg (Sup.mk xgen xep xblk xlog xst xpl xrt xcnt xver).arr) rfl (load_super _ _ (Sup.mk xgen xep xblk xlog xst xpl xrt xcnt xver) (setRow_heap _ _ _ _ _ _ B2.out.2.1))) rfl ⟨rfl, ?_⟩
      exact below_setRow B2.out.2.2.1 (by rw [GY.out.2.2.2]; exact Nat.le_refl _) _
    · have EQ : Hid (∀ W u u', Bytes W u (layA (Sup.mk xgen xep xblk xlog xst xpl xrt xcnt xver)) → Bytes W u' b → Calls Try.prog 60 #[u, u'] W fun e w' => e = .returned (.bool false) ∧ w' = W) := Lib.hid (fun W u u' h1 h2 => by have := equal_any u u' _ _ W h1 h2; rw [decide_eq_false hle] at this; exact this)
      have HE : Hid (RR = (zeroS, 2)) := Lib.hid (by rw [HR.out, if_neg (fun h => hle h.2)])
      clear EN hv HR hle
      go_wp2_with (first | (go_at_call 25; refine EN'.out.mono ?_; rintro e w2 ⟨gb, rfl, o2, b2⟩; have O2 := Lib.hid o2.bytes; obtain ⟨⟨z0, z1, z2, z3, z4, z5, z6, z7, z8⟩, b2'⟩ := KS.out w2 b2; have B2 := Lib.hid b2'; clear o2 b2 b2') | (go_at_call 60; refine (EQ.out _ _ _ O2.out B2.out.2.2.2).mono ?_; rintro e w3 ⟨rfl, rfl⟩) | (refine wpList_store_row rfl 34 (.tmp 2) (.tmp 26) rfl gr zeroS.arr rfl rfl 34 zeroS.arr B2.out.2.1 size_super rfl (arr_one _) ?_))
      rw [HE.out]
      refine bodyPost_ret (results_cell1 rfl _ _ ⟨gr, 0, none⟩ (.agg zeroS.arr) rfl (load_super _ _ zeroS (setRow_heap _ _ _ _ _ _ B2.out.2.1))) rfl ⟨rfl, ?_⟩
      exact below_setRow B2.out.2.2.1 (by rw [GY.out.2.2.2]; exact Nat.le_refl _) _
theorem dec_any (v : Value) (b : List UInt8) (w : World) (hv : Bytes w v b) : Calls Try.prog 43 #[v] w fun e w' => e = .returned (.tuple #[.agg (decR b).1.arr, .int .i64 (decR b).2]) ∧ Below w.heap.size w w' := by
  by_cases hl : b.length = 512
  · exact dec_full v b w hv hl
  · have h := dec_short v b w hv hl
    unfold decR
    rw [if_pos hl]
    exact h
end Go.Proofs.Ytbdlebengmbooaa
