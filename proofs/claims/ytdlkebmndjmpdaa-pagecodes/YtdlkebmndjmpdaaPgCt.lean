/-
  cut: a marked node's own part.
-/
import Derived.Test.YtdlkebmndjmpdaaPgMl
namespace Go.Proofs.Ytdlkebmndjmpdaa
open Go.RowKit Go.Maps
set_option maxHeartbeats 8000000 in
set_option maxRecDepth 100000 in
theorem cut_lit (kd nx : Int) (dt : ByteArray) (ae ac ak ah : Option Addr) (ne nc nk nh ce cc ck ch : Nat) (w : World) (h1 : ne + 2 ≤ ce) (h2 : nc + 2 ≤ cc) (h3 : nk + 2 ≤ ck) (h4 : nh + 2 ≤ ch) (m1 : ce ≤ 9223372036854775807) (m2 : cc ≤ 9223372036854775807) (m3 : ck ≤ 9223372036854775807) (m4 : ch ≤ 9223372036854775807) :
    Calls Try.prog 20 #[.agg #[.int .i64 kd, .slice ae (ne + 2) ce, .slice ac (nc + 2) cc, .slice ak (nk + 2) ck, .slice ah (nh + 2) ch, .int .i64 nx, .string dt]] w fun e w' => e = .returned (.agg #[.int .i64 kd, .slice ae ne ce, .slice ac nc cc, .slice ak nk ck, .slice ah nh ch, .int .i64 nx, .string dt]) ∧ Below w.heap.size w w' := by
  obtain ⟨X2, hX2⟩ : ∃ X, X = (w.alloc (.cells #[.int .i64 kd, .slice ae (ne + 2) ce, .slice ac (nc + 2) cc, .slice ak (nk + 2) ck, .slice ah (nh + 2) ch, .int .i64 nx, .string dt] 27)).alloc (.cells #[.int .i64 0, .slice none 0 0, .slice none 0 0, .slice none 0 0, .slice none 0 0, .int .i64 0, .string ⟨#[]⟩] 27) := ⟨_, rfl⟩
  obtain ⟨gs, hgs⟩ : ∃ gs, gs = w.heap.size + 1 := ⟨_, rfl⟩
  obtain ⟨gb, hgb⟩ : ∃ gb, gb = w.heap.size := ⟨_, rfl⟩
  have b1 : Below w.heap.size w (w.alloc (.cells #[.int .i64 kd, .slice ae (ne + 2) ce, .slice ac (nc + 2) cc, .slice ak (nk + 2) ck, .slice ah (nh + 2) ch, .int .i64 nx, .string dt] 27)) := (Below.refl _ _).alloc (Nat.le_refl _) _
  have B2 : Hid (Below w.heap.size w X2) := Lib.hid (by rw [hX2]; exact b1.alloc b1.size _)
  have x2 : X2.heap[gb]? = some (.cells #[.int .i64 kd, .slice ae (ne + 2) ce, .slice ac (nc + 2) cc, .slice ak (nk + 2) ck, .slice ah (nh + 2) ch, .int .i64 nx, .string dt] 27 (0, 0)) := by
    rw [hX2, hgb, Below.heap_alloc _ _ _ (by simp)]; exact heap_alloc_new _ _
  have s2 : X2.heap[gs]? = some (.cells zN 27 (0, 0)) := by
    rw [hX2, hgs]
    have := heap_alloc_new (w.alloc (.cells #[.int .i64 kd, .slice ae (ne + 2) ce, .slice ac (nc + 2) cc, .slice ak (nk + 2) ck, .slice ah (nh + 2) ch, .int .i64 nx, .string dt] 27)) (.cells zN 27 (0, 0))
    rw [show (w.alloc (.cells #[.int .i64 kd, .slice ae (ne + 2) ce, .slice ac (nc + 2) cc, .slice ak (nk + 2) ck, .slice ah (nh + 2) ch, .int .i64 nx, .string dt] 27)).heap.size = w.heap.size + 1 by simp] at this
    exact this
  have gne : ¬ gs = gb := by omega
  obtain ⟨Y1, hY1⟩ : ∃ X, X = X2.setCell ⟨gb, 1, none⟩ (.slice ae ne ce) := ⟨_, rfl⟩
  have y1 : Y1.heap[gb]? = some (.cells #[.int .i64 kd, .slice ae ne ce, .slice ac (nc + 2) cc, .slice ak (nk + 2) ck, .slice ah (nh + 2) ch, .int .i64 nx, .string dt] 27 (0, 0)) := by rw [hY1, heap_setCell_same _ _ _ _ _ _ x2]; rfl
  have k1 : Kept (fun x => x = gb) X2 Y1 := by rw [hY1]; exact kept_set _ _ _ rfl
  have t1 : Y1.heap[gs]? = some (.cells zN 27 (0, 0)) := by rw [k1.block gs (lt_of_heap s2) gne]; exact s2
  obtain ⟨Y2, hY2⟩ : ∃ X, X = Y1.setCell ⟨gb, 2, none⟩ (.slice ac nc cc) := ⟨_, rfl⟩
  have y2 : Y2.heap[gb]? = some (.cells #[.int .i64 kd, .slice ae ne ce, .slice ac nc cc, .slice ak (nk + 2) ck, .slice ah (nh + 2) ch, .int .i64 nx, .string dt] 27 (0, 0)) := by rw [hY2, heap_setCell_same _ _ _ _ _ _ y1]; rfl
  have k2 : Kept (fun x => x = gb) Y1 Y2 := by rw [hY2]; exact kept_set _ _ _ rfl
  have t2 : Y2.heap[gs]? = some (.cells zN 27 (0, 0)) := by rw [k2.block gs (lt_of_heap t1) gne]; exact t1
  obtain ⟨Y3, hY3⟩ : ∃ X, X = Y2.setCell ⟨gb, 3, none⟩ (.slice ak nk ck) := ⟨_, rfl⟩
  have y3 : Y3.heap[gb]? = some (.cells #[.int .i64 kd, .slice ae ne ce, .slice ac nc cc, .slice ak nk ck, .slice ah (nh + 2) ch, .int .i64 nx, .string dt] 27 (0, 0)) := by rw [hY3, heap_setCell_same _ _ _ _ _ _ y2]; rfl
  have k3 : Kept (fun x => x = gb) Y2 Y3 := by rw [hY3]; exact kept_set _ _ _ rfl
  have t3 : Y3.heap[gs]? = some (.cells zN 27 (0, 0)) := by rw [k3.block gs (lt_of_heap t2) gne]; exact t2
  obtain ⟨Y4, hY4⟩ : ∃ X, X = Y3.setCell ⟨gb, 4, none⟩ (.slice ah nh ch) := ⟨_, rfl⟩
  have y4 : Y4.heap[gb]? = some (.cells #[.int .i64 kd, .slice ae ne ce, .slice ac nc cc, .slice ak nk ck, .slice ah nh ch, .int .i64 nx, .string dt] 27 (0, 0)) := by rw [hY4, heap_setCell_same _ _ _ _ _ _ y3]; rfl
  have k4 : Kept (fun x => x = gb) Y3 Y4 := by rw [hY4]; exact kept_set _ _ _ rfl
  have t4 : Y4.heap[gs]? = some (.cells zN 27 (0, 0)) := by rw [k4.block gs (lt_of_heap t3) gne]; exact t3
  obtain ⟨X20, X21, X22, X23, X24, X25, X26⟩ := node_cells x2
  obtain ⟨Y10, Y11, Y12, Y13, Y14, Y15, Y16⟩ := node_cells y1
  obtain ⟨Y20, Y21, Y22, Y23, Y24, Y25, Y26⟩ := node_cells y2
  obtain ⟨Y30, Y31, Y32, Y33, Y34, Y35, Y36⟩ := node_cells y3
  obtain ⟨Y40, Y41, Y42, Y43, Y44, Y45, Y46⟩ := node_cells y4
  have f1 : X2.frozen? ⟨gb, 1, none⟩ = false := frozen_of_row _ _ _ _ _ x2
  have f2 : Y1.frozen? ⟨gb, 2, none⟩ = false := frozen_of_row _ _ _ _ _ y1
  have f3 : Y2.frozen? ⟨gb, 3, none⟩ = false := frozen_of_row _ _ _ _ _ y2
  have f4 : Y3.frozen? ⟨gb, 4, none⟩ = false := frozen_of_row _ _ _ _ _ y3
  have KK : Hid (Kept (fun x => x = gb) X2 Y4) := Lib.hid (((k1.trans k2 (fun _ _ q => q)).trans k3 (fun _ _ q => q)).trans k4 (fun _ _ q => q))
  have t4' : Y4.heap[gb + 1]? = some (.cells zN 27 (0, 0)) := by rw [show gb + 1 = gs by omega]; exact t4
  have T4 := Lib.hid t4'
  have OV5 : Hid ((#[.int .i64 kd, .slice ae ne ce, .slice ac nc cc, .slice ak nk ck, .slice ah nh ch, .int .i64 nx, .string dt] : Array Value).all (·.oneCell') = true) := Lib.hid (arr_one _ _ _ ⟨rfl, rfl, rfl, rfl⟩)
  have GG := Lib.hid (And.intro hgs hgb)
  have hX2' := hX2.symm; have hgb' := hgb.symm; have hY1' := hY1.symm; have hY2' := hY2.symm; have hY3' := hY3.symm; have hY4' := hY4.symm
  clear hX2 hgs hgb hY1 hY2 hY3 hY4 b1 x2 s2 y1 y2 y3 y4 t1 t2 t3 t4 t4' k1 k2 k3 k4 gne
  have g1 : ((ne + 2 : Nat) : Int) - 2 = (ne : Int) := by omega
  have g2 : ((nc + 2 : Nat) : Int) - 2 = (nc : Int) := by omega
  have g3 : ((nk + 2 : Nat) : Int) - 2 = (nk : Int) := by omega
  have g4 : ((nh + 2 : Nat) : Int) - 2 = (nh : Int) := by omega
  go_enter Try.func20, Try.ntmps20
  go_wp2_with (refine wpList_store_row rfl 27 (.tmp 2) (.tmp 35) rfl (gb + 1) #[.int .i64 kd, .slice ae ne ce, .slice ac nc cc, .slice ak nk ck, .slice ah nh ch, .int .i64 nx, .string dt] rfl rfl 27 zN T4.out size_node rfl OV5.out ?_)
  refine bodyPost_ret (results_cell_row rfl _ _ (gb + 1) 27 #[.int .i64 kd, .slice ae ne ce, .slice ac nc cc, .slice ak nk ck, .slice ah nh ch, .int .i64 nx, .string dt] (0, 0) _ rfl (setRow_heap _ _ _ _ _ _ T4.out) Try.underlying27 rfl size_node) rfl ?_
  have hkp := kept_setRow Y4 (gb + 1) #[.int .i64 kd, .slice ae ne ce, .slice ac nc cc, .slice ak nk ck, .slice ah nh ch, .int .i64 nx, .string dt]
  have hg := GG.out
  refine ⟨rfl, (B2.out.trans (KK.out.below B2.out.size (fun x hx => by omega))).trans (hkp.below (Nat.le_trans B2.out.size KK.out.size) (fun x hx => by omega))⟩
end Go.Proofs.Ytdlkebmndjmpdaa
