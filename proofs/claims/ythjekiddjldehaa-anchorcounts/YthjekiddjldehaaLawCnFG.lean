/-
  AnchorCounts: swap F, spoil G.
-/
import Derived.Test.YthjekiddjldehaaAnN
namespace Go.Proofs.Ythjekiddjldehaa
open Go.RowKit Go.Maps
set_option maxRecDepth 100000 in
set_option maxHeartbeats 8000000 in
theorem cn_FG (a b : Sup) (xgen xep xblk xlog xst xpl xrt xcnt xver ygen yep yblk ylog yst ypl yrt ycnt yver : Int) (spoil at' : Int) (w : World)
    (ha : (Sup.mk xgen xep xblk xlog xst xpl xrt xcnt xver) = rightS a (2 * (1 + (mk a.gen 10 : Int)))) (hb : (Sup.mk ygen yep yblk ylog yst ypl yrt ycnt yver) = rightS b (2 * (mk b.gen 10 : Int) + 1)) (h0 : spoil ≠ 0) (h1 : spoil ≠ 1) (hg : ygen < xgen) :
    Calls Try.prog 3 #[.agg a.arr, .agg b.arr, .bool false, .int .i64 spoil, .int .i64 at'] w fun e w' => e = .returned (.bool true) ∧ Below w.heap.size w w' := by
  obtain ⟨ma, hma⟩ : ∃ m, m = mk a.gen 10 := ⟨_, rfl⟩
  obtain ⟨mb', hmb⟩ : ∃ m, m = mk b.gen 10 := ⟨_, rfl⟩
  have la : ma < 1024 := by rw [hma]; exact mk_lt _ 10
  have lb : mb' < 1024 := by rw [hmb]; exact mk_lt _ 10
  rw [← hma] at ha
  rw [← hmb] at hb
  have gx : xgen = 2 * (1 + (ma : Int)) := congrArg Sup.gen ha
  have gy : ygen = 2 * (mb' : Int) + 1 := congrArg Sup.gen hb
  have vx : vaB (Sup.mk xgen xep xblk xlog xst xpl xrt xcnt xver) 64 = true := by rw [ha]; exact right_va a _ (by omega) (by omega)
  have vy : vaB (Sup.mk ygen yep yblk ylog yst ypl yrt ycnt yver) 64 = true := by rw [hb]; exact right_va b _ (by omega) (by omega)
  have dx : Vd (Sup.mk xgen xep xblk xlog xst xpl xrt xcnt xver) := vd_of vx
  have dy : Vd (Sup.mk ygen yep yblk ylog yst ypl yrt ycnt yver) := vd_of vy
  obtain ⟨pp, hpp⟩ : ∃ l, l = layA (Sup.mk xgen xep xblk xlog xst xpl xrt xcnt xver) := ⟨_, rfl⟩
  obtain ⟨qq, hqq⟩ : ∃ l, l = layA (Sup.mk ygen yep yblk ylog yst ypl yrt ycnt yver) := ⟨_, rfl⟩
  have PL : pp.length = 512 := by rw [hpp]; exact layA_length _
  have QL : qq.length = 512 := by rw [hqq]; exact layA_length _
  obtain ⟨k, hk⟩ : ∃ k, k = mk at' 9 := ⟨_, rfl⟩
  have lk : k < 512 := by rw [hk]; exact mk_lt _ 9
  have wk : bits .and .i64 at' 511 = (k : Int) := by rw [hk]; exact and_511 _
  have wa : bits .and .i64 a.gen 1023 = (ma : Int) := by rw [hma]; exact and_1023 _
  have wb : bits .and .i64 b.gen 1023 = (mb' : Int) := by rw [hmb]; exact and_1023 _
  have RX : Hid (∀ W, Calls Try.prog 10 #[.agg a.arr, .int .i64 (2 * (1 + (ma : Int)))] W fun e w' => e = .returned (.agg #[.int .i64 xgen, .int .i64 xep, .int .i64 xblk, .int .i64 xlog, .int .i64 xst, .int .i64 xpl, .int .i64 xrt, .int .i64 xcnt, .int .i64 xver]) ∧ Below W.heap.size W w') := Lib.hid (fun W => by have := right_any a (2 * (1 + (ma : Int))) W; rw [← ha] at this; exact this)
  have RY : Hid (∀ W, Calls Try.prog 10 #[.agg b.arr, .int .i64 (2 * (mb' : Int) + 1)] W fun e w' => e = .returned (.agg #[.int .i64 ygen, .int .i64 yep, .int .i64 yblk, .int .i64 ylog, .int .i64 yst, .int .i64 ypl, .int .i64 yrt, .int .i64 ycnt, .int .i64 yver]) ∧ Below W.heap.size W w') := Lib.hid (fun W => by have := right_any b (2 * (mb' : Int) + 1) W; rw [← hb] at this; exact this)
  have EX : Hid (∀ W, Calls Try.prog 11 #[.agg #[.int .i64 xgen, .int .i64 xep, .int .i64 xblk, .int .i64 xlog, .int .i64 xst, .int .i64 xpl, .int .i64 xrt, .int .i64 xcnt, .int .i64 xver]] W fun e w' => ∃ gb, e = .returned (.tuple #[.slice (some ⟨gb, 0, none⟩) 512 512, .int .i64 0]) ∧ Own W.heap.size w' (.slice (some ⟨gb, 0, none⟩) 512 512) pp ∧ Below W.heap.size W w') := Lib.hid (fun W => by rw [hpp]; exact enc_yes (Sup.mk xgen xep xblk xlog xst xpl xrt xcnt xver) W (vd_va dx))
  have EY : Hid (∀ W, Calls Try.prog 11 #[.agg #[.int .i64 ygen, .int .i64 yep, .int .i64 yblk, .int .i64 ylog, .int .i64 yst, .int .i64 ypl, .int .i64 yrt, .int .i64 ycnt, .int .i64 yver]] W fun e w' => ∃ gb, e = .returned (.tuple #[.slice (some ⟨gb, 0, none⟩) 512 512, .int .i64 0]) ∧ Own W.heap.size w' (.slice (some ⟨gb, 0, none⟩) 512 512) qq ∧ Below W.heap.size W w') := Lib.hid (fun W => by rw [hqq]; exact enc_yes (Sup.mk ygen yep yblk ylog yst ypl yrt ycnt yver) W (vd_va dy))
  obtain ⟨z, hz⟩ : ∃ z : List UInt8, z = List.replicate (512 * 64) 0 := ⟨_, rfl⟩
  have ZM : Hid (Zm z) := Lib.hid (by rw [hz]; exact zm_zs)
  have RDU : Hid (readU (two z 0 1 pp qq) = ((Sup.mk xgen xep xblk xlog xst xpl xrt xcnt xver), xgen % 2, 0)) := Lib.hid (by
    obtain ⟨e1, e2⟩ := two_raw ZM.out 0 1 (by decide) (by decide) (by decide) (p := pp) (q := qq) (by exact PL) (by exact QL)
    have f1 : decR pp = ((Sup.mk xgen xep xblk xlog xst xpl xrt xcnt xver), 0) := by rw [hpp]; exact dec_lay _ dx
    have f2 : decR qq = ((Sup.mk ygen yep yblk ylog yst ypl yrt ycnt yver), 0) := by rw [hqq]; exact dec_lay _ dy
    have hb2 := bst_two (two z 0 1 pp qq) rfl
    rw [e1, e2, f1, f2, pick_yes vx (by show xgen % 2 = 0; omega) (by show (0 : Int) < xgen; omega), pick_old (by show ¬ xgen < ygen; omega)] at hb2
    exact readU_of hb2 (by show 1 ≤ xgen; omega))
  have SPL : Hid ((pp).length = 512 ∧ (qq).length = 512) := Lib.hid ⟨by exact PL, by exact QL⟩
  have PQ := Lib.hid (And.intro PL QL)
  have rem : xgen.tmod 2 = xgen % 2 := Int.tmod_eq_emod_of_nonneg (by omega)
  have f2 : (spoil != 0) = true := by rw [bne_iff_ne]; exact h0
  have f0 : (spoil == 0) = false := by rw [beq_eq_false_iff_ne]; exact h0
  have f1 : (spoil == 1) = false := by rw [beq_eq_false_iff_ne]; exact h1
  have fg : decide (xgen > ygen) = true := decide_eq_true hg
  clear h0 h1 hg
  obtain ⟨agen, aep, ablk, alog, ast, apl, art, acnt, aver⟩ := a
  obtain ⟨bgen, bep, bblk, blog, bst, bpl, brt, bcnt, bver⟩ := b
  simp only at wa wb
  unfold Sup.arr at RX RY ⊢
  simp only at RX RY ⊢
  obtain ⟨X, hX⟩ : ∃ X, X = (w.alloc (.cells #[.int .i64 agen, .int .i64 aep, .int .i64 ablk, .int .i64 alog, .int .i64 ast, .int .i64 apl, .int .i64 art, .int .i64 acnt, .int .i64 aver] 25)).alloc (.cells #[.int .i64 bgen, .int .i64 bep, .int .i64 bblk, .int .i64 blog, .int .i64 bst, .int .i64 bpl, .int .i64 brt, .int .i64 bcnt, .int .i64 bver] 25) := ⟨_, rfl⟩
  obtain ⟨g5, hg5⟩ : ∃ g, g = w.heap.size := ⟨_, rfl⟩
  have BX : Hid (Below w.heap.size w X) := Lib.hid (by rw [hX]; exact ((Below.refl _ _).alloc (Nat.le_refl _) _).alloc (by simp) _)
  have KS : Hid (∀ W : World, Below X.heap.size X W → (W.cell? ⟨g5, 0, none⟩ = some (.int .i64 agen) ∧ W.cell? ⟨g5, 1, none⟩ = some (.int .i64 aep) ∧ W.cell? ⟨g5, 2, none⟩ = some (.int .i64 ablk) ∧ W.cell? ⟨g5, 3, none⟩ = some (.int .i64 alog) ∧ W.cell? ⟨g5, 4, none⟩ = some (.int .i64 ast) ∧ W.cell? ⟨g5, 5, none⟩ = some (.int .i64 apl) ∧ W.cell? ⟨g5, 6, none⟩ = some (.int .i64 art) ∧ W.cell? ⟨g5, 7, none⟩ = some (.int .i64 acnt) ∧ W.cell? ⟨g5, 8, none⟩ = some (.int .i64 aver)) ∧ (W.cell? ⟨g5 + 1, 0, none⟩ = some (.int .i64 bgen) ∧ W.cell? ⟨g5 + 1, 1, none⟩ = some (.int .i64 bep) ∧ W.cell? ⟨g5 + 1, 2, none⟩ = some (.int .i64 bblk) ∧ W.cell? ⟨g5 + 1, 3, none⟩ = some (.int .i64 blog) ∧ W.cell? ⟨g5 + 1, 4, none⟩ = some (.int .i64 bst) ∧ W.cell? ⟨g5 + 1, 5, none⟩ = some (.int .i64 bpl) ∧ W.cell? ⟨g5 + 1, 6, none⟩ = some (.int .i64 brt) ∧ W.cell? ⟨g5 + 1, 7, none⟩ = some (.int .i64 bcnt) ∧ W.cell? ⟨g5 + 1, 8, none⟩ = some (.int .i64 bver)) ∧ Below w.heap.size w W) := Lib.hid (fun W h => by
    have s1 : (w.alloc (.cells #[.int .i64 agen, .int .i64 aep, .int .i64 ablk, .int .i64 alog, .int .i64 ast, .int .i64 apl, .int .i64 art, .int .i64 acnt, .int .i64 aver] 25)).heap.size = w.heap.size + 1 := by simp
    have x5 : X.heap[g5]? = some (.cells (Sup.mk agen  aep  ablk  alog  ast  apl  art  acnt  aver).arr 25 (0, 0)) := by rw [hX, hg5, Below.heap_alloc _ _ _ (by simp)]; exact heap_alloc_new _ _
    have x6 : X.heap[g5 + 1]? = some (.cells (Sup.mk bgen  bep  bblk  blog  bst  bpl  brt  bcnt  bver).arr 25 (0, 0)) := by rw [hX, hg5, ← s1]; exact heap_alloc_new _ _
    exact ⟨sup_cells ((h.block g5 (lt_of_heap x5)).trans x5), sup_cells ((h.block (g5 + 1) (lt_of_heap x6)).trans x6), BX.out.trans (h.mono BX.out.size)⟩)
  have NW := fun W => Lib.hid (new_ok 64 W (by decide) (by decide))
  rw [← hz] at NW
  have hX' := hX.symm
  have hg5' := hg5.symm
  have mlo : (2 * (1 + (ma : Int))) ≤ 2048 := by omega
  clear hX hg5 ha hb hma hmb gx gy vx vy dx dy hpp hqq PL QL hk hz BX
  go_enter Try.func3, Try.ntmps3
  go_wp2_with fail
  refine (fixed_any X).mono ?_
  rintro _ w1 ⟨rfl, b1⟩
  have B1 := Lib.hid b1
  clear b1 hX' hg5'
  go_wp2_with fail
  refine (NW w1).out.mono ?_
  rintro _ w2 ⟨rfl, b2, d2⟩
  have B2 := Lib.hid (B1.out.trans (b2.mono B1.out.size))
  obtain ⟨dm, hdm⟩ : ∃ n, n = w1.heap.size := ⟨_, rfl⟩
  rw [← hdm] at d2 ⊢
  have D2 : Hid (Dv w.heap.size w2 (dm + 2) dm (dm + 1) (.slice none 0 0) (newD 64 z)) := Lib.hid ⟨d2.self, d2.med, World.ownsRow_nil _ _ _ _, d2.latest, d2.fit, by have := (KS.out w1 B1.out).2.2.size; omega, by have := (KS.out w1 B1.out).2.2.size; omega, by have := (KS.out w1 B1.out).2.2.size; omega⟩
  clear b2 d2 hdm NW
  obtain ⟨⟨s0, s1, s2, s3, s4, s5, s6, s7, s8⟩, ⟨t0, t1, t2, t3, t4, t5, t6, t7, t8⟩, bw2⟩ := KS.out w2 B2.out
  have BW2 := Lib.hid bw2
  clear bw2
  go_wp2_with fail
  refine (RX.out w2).mono ?_
  rintro _ w3 ⟨rfl, b3⟩
  obtain ⟨g14, hg14⟩ : ∃ g, g = w3.heap.size := ⟨_, rfl⟩
  have B3 : Hid (Below w2.heap.size w2 w3 ∧ g14 = w3.heap.size) := Lib.hid ⟨b3, hg14⟩
  have hg14' := hg14.symm
  have A3 : ∀ ob, Below X.heap.size X (w3.alloc ob) := fun ob => (B2.out.trans (b3.mono B2.out.size)).alloc (B2.out.trans (b3.mono B2.out.size)).size ob
  have u0 : ∀ ob, (w3.alloc ob).cell? ⟨g5 + 1, 0, none⟩ = some (.int .i64 bgen) := fun ob => (KS.out _ (A3 ob)).2.1.1
  have u1 : ∀ ob, (w3.alloc ob).cell? ⟨g5 + 1, 1, none⟩ = some (.int .i64 bep) := fun ob => (KS.out _ (A3 ob)).2.1.2.1
  have u2 : ∀ ob, (w3.alloc ob).cell? ⟨g5 + 1, 2, none⟩ = some (.int .i64 bblk) := fun ob => (KS.out _ (A3 ob)).2.1.2.2.1
  have u3 : ∀ ob, (w3.alloc ob).cell? ⟨g5 + 1, 3, none⟩ = some (.int .i64 blog) := fun ob => (KS.out _ (A3 ob)).2.1.2.2.2.1
  have u4 : ∀ ob, (w3.alloc ob).cell? ⟨g5 + 1, 4, none⟩ = some (.int .i64 bst) := fun ob => (KS.out _ (A3 ob)).2.1.2.2.2.2.1
  have u5 : ∀ ob, (w3.alloc ob).cell? ⟨g5 + 1, 5, none⟩ = some (.int .i64 bpl) := fun ob => (KS.out _ (A3 ob)).2.1.2.2.2.2.2.1
  have u6 : ∀ ob, (w3.alloc ob).cell? ⟨g5 + 1, 6, none⟩ = some (.int .i64 brt) := fun ob => (KS.out _ (A3 ob)).2.1.2.2.2.2.2.2.1
  have u7 : ∀ ob, (w3.alloc ob).cell? ⟨g5 + 1, 7, none⟩ = some (.int .i64 bcnt) := fun ob => (KS.out _ (A3 ob)).2.1.2.2.2.2.2.2.2.1
  have u8 : ∀ ob, (w3.alloc ob).cell? ⟨g5 + 1, 8, none⟩ = some (.int .i64 bver) := fun ob => (KS.out _ (A3 ob)).2.1.2.2.2.2.2.2.2.2
  clear b3 hg14 A3 s0 s1 s2 s3 s4 s5 s6 s7 s8 t0 t1 t2 t3 t4 t5 t6 t7 t8
  go_wp2_with fail
  refine (RY.out _).mono ?_
  rintro _ w4 ⟨rfl, b4⟩
  have B4 : Hid (Below w2.heap.size w2 w4 ∧ w4.heap[g14]? = some (.cells (Sup.mk xgen xep xblk xlog xst xpl xrt xcnt xver).arr 25 (0, 0))) := Lib.hid (by
    have q1 := (B3.out.1.alloc B3.out.1.size (.cells #[.int .i64 xgen, .int .i64 xep, .int .i64 xblk, .int .i64 xlog, .int .i64 xst, .int .i64 xpl, .int .i64 xrt, .int .i64 xcnt, .int .i64 xver] 25))
    refine ⟨q1.trans (b4.mono q1.size), ?_⟩
    rw [B3.out.2, b4.block _ (by simp)]
    exact heap_alloc_new _ _)
  clear b4 u0 u1 u2 u3 u4 u5 u6 u7 u8 hg14' RX RY
  obtain ⟨g15, hg15⟩ : ∃ g, g = w4.heap.size := ⟨_, rfl⟩
  have hg15' := hg15.symm
  have H15 := Lib.hid hg15
  have A4 : ∀ ob, Below w4.heap.size w4 (w4.alloc ob) := fun ob => (Below.refl _ _).alloc (Nat.le_refl _) ob
  have u0 : ∀ ob, (w4.alloc ob).cell? ⟨g14, 0, none⟩ = some (.int .i64 xgen) := fun ob => (sup_cells (s := (Sup.mk xgen xep xblk xlog xst xpl xrt xcnt xver)) (((A4 ob).block _ (lt_of_heap B4.out.2)).trans B4.out.2)).1
  have u1 : ∀ ob, (w4.alloc ob).cell? ⟨g14, 1, none⟩ = some (.int .i64 xep) := fun ob => (sup_cells (s := (Sup.mk xgen xep xblk xlog xst xpl xrt xcnt xver)) (((A4 ob).block _ (lt_of_heap B4.out.2)).trans B4.out.2)).2.1
  have u2 : ∀ ob, (w4.alloc ob).cell? ⟨g14, 2, none⟩ = some (.int .i64 xblk) := fun ob => (sup_cells (s := (Sup.mk xgen xep xblk xlog xst xpl xrt xcnt xver)) (((A4 ob).block _ (lt_of_heap B4.out.2)).trans B4.out.2)).2.2.1
  have u3 : ∀ ob, (w4.alloc ob).cell? ⟨g14, 3, none⟩ = some (.int .i64 xlog) := fun ob => (sup_cells (s := (Sup.mk xgen xep xblk xlog xst xpl xrt xcnt xver)) (((A4 ob).block _ (lt_of_heap B4.out.2)).trans B4.out.2)).2.2.2.1
  have u4 : ∀ ob, (w4.alloc ob).cell? ⟨g14, 4, none⟩ = some (.int .i64 xst) := fun ob => (sup_cells (s := (Sup.mk xgen xep xblk xlog xst xpl xrt xcnt xver)) (((A4 ob).block _ (lt_of_heap B4.out.2)).trans B4.out.2)).2.2.2.2.1
  have u5 : ∀ ob, (w4.alloc ob).cell? ⟨g14, 5, none⟩ = some (.int .i64 xpl) := fun ob => (sup_cells (s := (Sup.mk xgen xep xblk xlog xst xpl xrt xcnt xver)) (((A4 ob).block _ (lt_of_heap B4.out.2)).trans B4.out.2)).2.2.2.2.2.1
  have u6 : ∀ ob, (w4.alloc ob).cell? ⟨g14, 6, none⟩ = some (.int .i64 xrt) := fun ob => (sup_cells (s := (Sup.mk xgen xep xblk xlog xst xpl xrt xcnt xver)) (((A4 ob).block _ (lt_of_heap B4.out.2)).trans B4.out.2)).2.2.2.2.2.2.1
  have u7 : ∀ ob, (w4.alloc ob).cell? ⟨g14, 7, none⟩ = some (.int .i64 xcnt) := fun ob => (sup_cells (s := (Sup.mk xgen xep xblk xlog xst xpl xrt xcnt xver)) (((A4 ob).block _ (lt_of_heap B4.out.2)).trans B4.out.2)).2.2.2.2.2.2.2.1
  have u8 : ∀ ob, (w4.alloc ob).cell? ⟨g14, 8, none⟩ = some (.int .i64 xver) := fun ob => (sup_cells (s := (Sup.mk xgen xep xblk xlog xst xpl xrt xcnt xver)) (((A4 ob).block _ (lt_of_heap B4.out.2)).trans B4.out.2)).2.2.2.2.2.2.2.2
  clear hg15 A4
  go_wp2_with fail
  refine (EX.out _).mono ?_
  rintro _ w5 ⟨gp, rfl, o5, b5⟩
  have B5 : Hid (Below w2.heap.size w2 w5 ∧ w5.heap[g14]? = some (.cells (Sup.mk xgen xep xblk xlog xst xpl xrt xcnt xver).arr 25 (0, 0)) ∧ w5.heap[g15]? = some (.cells (Sup.mk ygen yep yblk ylog yst ypl yrt ycnt yver).arr 25 (0, 0)) ∧ w5.heap[gp]? = some (.cells (cells8 pp).toArray 5 (0, 0)) ∧ w2.heap.size ≤ gp) := Lib.hid (by
    have q0 : Below w4.heap.size w4 (w4.alloc (.cells #[.int .i64 ygen, .int .i64 yep, .int .i64 yblk, .int .i64 ylog, .int .i64 yst, .int .i64 ypl, .int .i64 yrt, .int .i64 ycnt, .int .i64 yver] 25)) := (Below.refl _ _).alloc (Nat.le_refl _) _
    have q1 := q0.trans (b5.mono q0.size)
    refine ⟨B4.out.1.trans (q1.mono B4.out.1.size), (q1.block _ (lt_of_heap B4.out.2)).trans B4.out.2, ?_, own_heap o5 PQ.out.1 (by decide), ?_⟩
    · rw [H15.out, b5.block _ (by simp)]
      exact heap_alloc_new _ _
    · have := (o5.lt gp rfl).1
      have := q0.size
      have := B4.out.1.size
      omega)
  obtain ⟨v0, v1, v2, v3, v4, v5, v6, v7, v8⟩ := sup_cells (s := (Sup.mk ygen yep yblk ylog yst ypl yrt ycnt yver)) B5.out.2.2.1
  simp only at v0 v1 v2 v3 v4 v5 v6 v7 v8
  clear o5 b5 u0 u1 u2 u3 u4 u5 u6 u7 u8 hg15' H15 EX
  go_wp2_with fail
  refine (EY.out _).mono ?_
  rintro _ w6 ⟨gq, rfl, o6, b6⟩
  have C6 : Hid (Ct w w6 (dm + 2) dm (dm + 1) (newD 64 z) g14 g15 gp gq (Sup.mk xgen xep xblk xlog xst xpl xrt xcnt xver) (Sup.mk ygen yep yblk ylog yst ypl yrt ycnt yver) pp qq) := Lib.hid (by
    have lt5 := lt_of_heap B5.out.2.2.2.1
    have lq := (o6.lt gq rfl).1
    have q1 := B5.out.1.trans (b6.mono B5.out.1.size)
    exact ⟨D2.out.below q1, (b6.block _ (lt_of_heap B5.out.2.1)).trans B5.out.2.1, (b6.block _ (lt_of_heap B5.out.2.2.1)).trans B5.out.2.2.1, (b6.block _ lt5).trans B5.out.2.2.2.1, own_heap o6 PQ.out.2 (by decide), PQ.out.1, PQ.out.2, ⟨by omega, Nat.le_trans BW2.out.size B5.out.2.2.2.2, by have := BW2.out.size; have := B5.out.1.size; omega⟩, BW2.out.trans (q1.mono BW2.out.size)⟩)
  clear o6 b6 v0 v1 v2 v3 v4 v5 v6 v7 v8 EY B5 B4 B3 B2 B1 D2 PQ
  have C7 := C6
  obtain ⟨P', hP'⟩ : ∃ l, l = pp := ⟨_, rfl⟩
  obtain ⟨Q', hQ'⟩ : ∃ l, l = qq := ⟨_, rfl⟩
  rw [← hP', ← hQ'] at RDU SPL C7
  have E1 := Lib.hid (edit_any C7.out.dv ((0 : Nat) : Int) 0 (.slice (some ⟨gp, 0, none⟩) 512 512) P' C7.out.bytesP)
  rw [edD_blk 0 (show 0 < 64 by decide) P' SPL.out.1] at E1
  simp only at E1
  clear hP' hQ' C6
  go_wp2_with fail
  refine E1.out.mono ?_
  rintro _ w8 ⟨rfl, d8, k8⟩
  have C8 := Lib.hid (C7.out.dev d8 k8 (fun z hz => Or.inr (Or.inl hz)))
  have E2 := Lib.hid (edit_any C8.out.dv ((1 : Nat) : Int) 0 (.slice (some ⟨gq, 0, none⟩) 512 512) Q' C8.out.bytesQ)
  rw [edD_blk 1 (show 1 < 64 by decide) Q' SPL.out.2] at E2
  simp only at E2
  clear d8 k8 C7 E1 
  go_wp2_with fail
  refine E2.out.mono ?_
  rintro _ w9 ⟨rfl, d9, k9⟩
  have C9 := Lib.hid (C8.out.dev d9 k9 (fun z hz => Or.inr (Or.inl hz)))
  have RD := Lib.hid (read_up (ds := two z 0 1 P' Q') C9.out.dv rfl)
  rw [RDU.out] at RD
  simp only at RD
  clear d9 k9 C8 E2
  go_wp2_with fail
  refine RD.out.mono ?_
  rintro _ w10 ⟨rfl, d10, k10⟩
  have C10 := Lib.hid (C9.out.dev d10 k10 (fun z hz => Or.inl hz))
  have A10 : ∀ ob, Below w10.heap.size w10 (w10.alloc ob) := fun ob => (Below.refl _ _).alloc (Nat.le_refl _) ob
  have u0 : ∀ ob, (w10.alloc ob).cell? ⟨g14, 0, none⟩ = some (.int .i64 xgen) := fun ob => (sup_cells (s := (Sup.mk xgen xep xblk xlog xst xpl xrt xcnt xver)) (((A10 ob).block _ (lt_of_heap C10.out.a)).trans C10.out.a)).1
  have v0 : ∀ ob, (w10.alloc ob).cell? ⟨g15, 0, none⟩ = some (.int .i64 ygen) := fun ob => (sup_cells (s := (Sup.mk ygen yep yblk ylog yst ypl yrt ycnt yver)) (((A10 ob).block _ (lt_of_heap C10.out.b)).trans C10.out.b)).1
  have u1 : ∀ ob, (w10.alloc ob).cell? ⟨g14, 1, none⟩ = some (.int .i64 xep) := fun ob => (sup_cells (s := (Sup.mk xgen xep xblk xlog xst xpl xrt xcnt xver)) (((A10 ob).block _ (lt_of_heap C10.out.a)).trans C10.out.a)).2.1
  have v1 : ∀ ob, (w10.alloc ob).cell? ⟨g15, 1, none⟩ = some (.int .i64 yep) := fun ob => (sup_cells (s := (Sup.mk ygen yep yblk ylog yst ypl yrt ycnt yver)) (((A10 ob).block _ (lt_of_heap C10.out.b)).trans C10.out.b)).2.1
  have u2 : ∀ ob, (w10.alloc ob).cell? ⟨g14, 2, none⟩ = some (.int .i64 xblk) := fun ob => (sup_cells (s := (Sup.mk xgen xep xblk xlog xst xpl xrt xcnt xver)) (((A10 ob).block _ (lt_of_heap C10.out.a)).trans C10.out.a)).2.2.1
  have v2 : ∀ ob, (w10.alloc ob).cell? ⟨g15, 2, none⟩ = some (.int .i64 yblk) := fun ob => (sup_cells (s := (Sup.mk ygen yep yblk ylog yst ypl yrt ycnt yver)) (((A10 ob).block _ (lt_of_heap C10.out.b)).trans C10.out.b)).2.2.1
  have u3 : ∀ ob, (w10.alloc ob).cell? ⟨g14, 3, none⟩ = some (.int .i64 xlog) := fun ob => (sup_cells (s := (Sup.mk xgen xep xblk xlog xst xpl xrt xcnt xver)) (((A10 ob).block _ (lt_of_heap C10.out.a)).trans C10.out.a)).2.2.2.1
  have v3 : ∀ ob, (w10.alloc ob).cell? ⟨g15, 3, none⟩ = some (.int .i64 ylog) := fun ob => (sup_cells (s := (Sup.mk ygen yep yblk ylog yst ypl yrt ycnt yver)) (((A10 ob).block _ (lt_of_heap C10.out.b)).trans C10.out.b)).2.2.2.1
  have u4 : ∀ ob, (w10.alloc ob).cell? ⟨g14, 4, none⟩ = some (.int .i64 xst) := fun ob => (sup_cells (s := (Sup.mk xgen xep xblk xlog xst xpl xrt xcnt xver)) (((A10 ob).block _ (lt_of_heap C10.out.a)).trans C10.out.a)).2.2.2.2.1
  have v4 : ∀ ob, (w10.alloc ob).cell? ⟨g15, 4, none⟩ = some (.int .i64 yst) := fun ob => (sup_cells (s := (Sup.mk ygen yep yblk ylog yst ypl yrt ycnt yver)) (((A10 ob).block _ (lt_of_heap C10.out.b)).trans C10.out.b)).2.2.2.2.1
  have u5 : ∀ ob, (w10.alloc ob).cell? ⟨g14, 5, none⟩ = some (.int .i64 xpl) := fun ob => (sup_cells (s := (Sup.mk xgen xep xblk xlog xst xpl xrt xcnt xver)) (((A10 ob).block _ (lt_of_heap C10.out.a)).trans C10.out.a)).2.2.2.2.2.1
  have v5 : ∀ ob, (w10.alloc ob).cell? ⟨g15, 5, none⟩ = some (.int .i64 ypl) := fun ob => (sup_cells (s := (Sup.mk ygen yep yblk ylog yst ypl yrt ycnt yver)) (((A10 ob).block _ (lt_of_heap C10.out.b)).trans C10.out.b)).2.2.2.2.2.1
  have u6 : ∀ ob, (w10.alloc ob).cell? ⟨g14, 6, none⟩ = some (.int .i64 xrt) := fun ob => (sup_cells (s := (Sup.mk xgen xep xblk xlog xst xpl xrt xcnt xver)) (((A10 ob).block _ (lt_of_heap C10.out.a)).trans C10.out.a)).2.2.2.2.2.2.1
  have v6 : ∀ ob, (w10.alloc ob).cell? ⟨g15, 6, none⟩ = some (.int .i64 yrt) := fun ob => (sup_cells (s := (Sup.mk ygen yep yblk ylog yst ypl yrt ycnt yver)) (((A10 ob).block _ (lt_of_heap C10.out.b)).trans C10.out.b)).2.2.2.2.2.2.1
  have u7 : ∀ ob, (w10.alloc ob).cell? ⟨g14, 7, none⟩ = some (.int .i64 xcnt) := fun ob => (sup_cells (s := (Sup.mk xgen xep xblk xlog xst xpl xrt xcnt xver)) (((A10 ob).block _ (lt_of_heap C10.out.a)).trans C10.out.a)).2.2.2.2.2.2.2.1
  have v7 : ∀ ob, (w10.alloc ob).cell? ⟨g15, 7, none⟩ = some (.int .i64 ycnt) := fun ob => (sup_cells (s := (Sup.mk ygen yep yblk ylog yst ypl yrt ycnt yver)) (((A10 ob).block _ (lt_of_heap C10.out.b)).trans C10.out.b)).2.2.2.2.2.2.2.1
  have u8 : ∀ ob, (w10.alloc ob).cell? ⟨g14, 8, none⟩ = some (.int .i64 xver) := fun ob => (sup_cells (s := (Sup.mk xgen xep xblk xlog xst xpl xrt xcnt xver)) (((A10 ob).block _ (lt_of_heap C10.out.a)).trans C10.out.a)).2.2.2.2.2.2.2.2
  have v8 : ∀ ob, (w10.alloc ob).cell? ⟨g15, 8, none⟩ = some (.int .i64 yver) := fun ob => (sup_cells (s := (Sup.mk ygen yep yblk ylog yst ypl yrt ycnt yver)) (((A10 ob).block _ (lt_of_heap C10.out.b)).trans C10.out.b)).2.2.2.2.2.2.2.2
  have A11 : ∀ ob ob', Below w10.heap.size w10 ((w10.alloc ob).alloc ob') := fun ob ob' => (A10 ob).alloc (A10 ob).size ob'
  have p0 : ∀ ob ob', ((w10.alloc ob).alloc ob').cell? ⟨g14, 0, none⟩ = some (.int .i64 xgen) := fun ob ob' => (sup_cells (s := (Sup.mk xgen xep xblk xlog xst xpl xrt xcnt xver)) (((A11 ob ob').block _ (lt_of_heap C10.out.a)).trans C10.out.a)).1
  have p1 : ∀ ob ob', ((w10.alloc ob).alloc ob').cell? ⟨g14, 1, none⟩ = some (.int .i64 xep) := fun ob ob' => (sup_cells (s := (Sup.mk xgen xep xblk xlog xst xpl xrt xcnt xver)) (((A11 ob ob').block _ (lt_of_heap C10.out.a)).trans C10.out.a)).2.1
  have p2 : ∀ ob ob', ((w10.alloc ob).alloc ob').cell? ⟨g14, 2, none⟩ = some (.int .i64 xblk) := fun ob ob' => (sup_cells (s := (Sup.mk xgen xep xblk xlog xst xpl xrt xcnt xver)) (((A11 ob ob').block _ (lt_of_heap C10.out.a)).trans C10.out.a)).2.2.1
  have p3 : ∀ ob ob', ((w10.alloc ob).alloc ob').cell? ⟨g14, 3, none⟩ = some (.int .i64 xlog) := fun ob ob' => (sup_cells (s := (Sup.mk xgen xep xblk xlog xst xpl xrt xcnt xver)) (((A11 ob ob').block _ (lt_of_heap C10.out.a)).trans C10.out.a)).2.2.2.1
  have p4 : ∀ ob ob', ((w10.alloc ob).alloc ob').cell? ⟨g14, 4, none⟩ = some (.int .i64 xst) := fun ob ob' => (sup_cells (s := (Sup.mk xgen xep xblk xlog xst xpl xrt xcnt xver)) (((A11 ob ob').block _ (lt_of_heap C10.out.a)).trans C10.out.a)).2.2.2.2.1
  have p5 : ∀ ob ob', ((w10.alloc ob).alloc ob').cell? ⟨g14, 5, none⟩ = some (.int .i64 xpl) := fun ob ob' => (sup_cells (s := (Sup.mk xgen xep xblk xlog xst xpl xrt xcnt xver)) (((A11 ob ob').block _ (lt_of_heap C10.out.a)).trans C10.out.a)).2.2.2.2.2.1
  have p6 : ∀ ob ob', ((w10.alloc ob).alloc ob').cell? ⟨g14, 6, none⟩ = some (.int .i64 xrt) := fun ob ob' => (sup_cells (s := (Sup.mk xgen xep xblk xlog xst xpl xrt xcnt xver)) (((A11 ob ob').block _ (lt_of_heap C10.out.a)).trans C10.out.a)).2.2.2.2.2.2.1
  have p7 : ∀ ob ob', ((w10.alloc ob).alloc ob').cell? ⟨g14, 7, none⟩ = some (.int .i64 xcnt) := fun ob ob' => (sup_cells (s := (Sup.mk xgen xep xblk xlog xst xpl xrt xcnt xver)) (((A11 ob ob').block _ (lt_of_heap C10.out.a)).trans C10.out.a)).2.2.2.2.2.2.2.1
  have p8 : ∀ ob ob', ((w10.alloc ob).alloc ob').cell? ⟨g14, 8, none⟩ = some (.int .i64 xver) := fun ob ob' => (sup_cells (s := (Sup.mk xgen xep xblk xlog xst xpl xrt xcnt xver)) (((A11 ob ob').block _ (lt_of_heap C10.out.a)).trans C10.out.a)).2.2.2.2.2.2.2.2
  have q0 : ∀ ob ob', ((w10.alloc ob).alloc ob').cell? ⟨g15, 0, none⟩ = some (.int .i64 ygen) := fun ob ob' => (sup_cells (s := (Sup.mk ygen yep yblk ylog yst ypl yrt ycnt yver)) (((A11 ob ob').block _ (lt_of_heap C10.out.b)).trans C10.out.b)).1
  have FIN : Hid (∀ ob ob', Below w.heap.size w ((w10.alloc ob).alloc ob')) := Lib.hid (fun ob ob' => C10.out.bl.trans ((A11 ob ob').mono C10.out.bl.size))
  have ZA : zeroS.arr = #[.int .i64 0, .int .i64 0, .int .i64 0, .int .i64 0, .int .i64 0, .int .i64 0, .int .i64 0, .int .i64 0, .int .i64 0] := rfl
  unfold Sup.arr
  clear d10 k10 C9 RD A10 A11 ZA
  go_wp2_with fail
  all_goals
    go_ret
    exact ⟨rfl, FIN.out _ _⟩
end Go.Proofs.Ythjekiddjldehaa
