/-
  The document's upTo, Valid.
-/
import Derived.Test.YthjekiddjldehaaAnVv
import Derived.BigQuiet
namespace Go.Proofs.Ythjekiddjldehaa
open Go.RowKit Go.Maps
def upB (n l : Int) : Bool := decide (l ≤ n) && decide (n ≤ 1152921500311879680)
theorem upB_iff (n l : Int) : upB n l = true ↔ l ≤ n ∧ n ≤ 1152921500311879680 := by unfold upB; simp only [Bool.and_eq_true, decide_eq_true_iff]
set_option maxHeartbeats 400000 in
theorem upTo_any (n l : Int) (w : World) : Calls Try.prog 55 #[.int .i64 n, .int .i64 l] w fun e w' => e = .returned (.bool (upB n l)) ∧ w' = w := by
  by_cases h1 : n ≥ l
  · have d1 : decide (n ≥ l) = true := decide_eq_true h1
    go_enter Try.func55, Try.ntmps55
    go_wp2_with fail
    go_ret
    refine ⟨?_, rfl⟩
    have : upB n l = decide (n ≤ 1152921500311879680) := by unfold upB; rw [show decide (l ≤ n) = true from d1, Bool.true_and]
    rw [this]
    rfl
  · have d1 : decide (n ≥ l) = false := decide_eq_false h1
    go_enter Try.func55, Try.ntmps55
    go_wp2_with fail
    go_ret
    refine ⟨?_, rfl⟩
    have : upB n l = false := by unfold upB; rw [show decide (l ≤ n) = false from d1, Bool.false_and]
    rw [this]
    rfl
theorem va_iff (s : Sup) (b : Int) : vaB s b = true ↔ s.blk = b ∧ Vd s := by
  constructor
  · intro h
    have e : s.blk = b := by unfold vaB at h; rw [Bool.and_eq_true, decide_eq_true_iff] at h; exact h.1
    exact ⟨e, (vd_iff s).1 (by rw [e]; exact h)⟩
  · rintro ⟨e, h⟩
    rw [← e]
    exact (vd_iff s).2 h
set_option maxRecDepth 100000 in
set_option maxHeartbeats 4000000 in
theorem rv0 (xgen xep xblk xlog xst xpl xrt xcnt xver b : Int) (w : World) (f0 : (xblk != b) = true) : Calls Try.prog 27 #[.agg #[.int .i64 xgen, .int .i64 xep, .int .i64 xblk, .int .i64 xlog, .int .i64 xst, .int .i64 xpl, .int .i64 xrt, .int .i64 xcnt, .int .i64 xver], .int .i64 b] w fun e w' => e = .returned (.bool false) ∧ Below w.heap.size w w' := by
  obtain ⟨Y, hY⟩ : ∃ Y, Y = w.alloc (.cells #[.int .i64 xgen, .int .i64 xep, .int .i64 xblk, .int .i64 xlog, .int .i64 xst, .int .i64 xpl, .int .i64 xrt, .int .i64 xcnt, .int .i64 xver] 25) := ⟨_, rfl⟩
  have BB : Hid (Below w.heap.size w Y) := Lib.hid (by rw [hY]; exact (Below.refl _ _).alloc (Nat.le_refl _) _)
  have GY : Y.heap[w.heap.size]? = some (.cells (Sup.mk xgen xep xblk xlog xst xpl xrt xcnt xver).arr 25 (0, 0)) := by rw [hY]; exact heap_alloc_new _ _
  obtain ⟨y0, y1, y2, y3, y4, y5, y6, y7, y8⟩ := sup_cells GY
  simp only at y0 y1 y2 y3 y4 y5 y6 y7 y8
  have hY' := hY.symm
  clear hY GY
  go_enter Try.func27, Try.ntmps27
  go_wp2_with (fail)
  go_ret
  exact ⟨rfl, BB.out⟩
set_option maxRecDepth 100000 in
set_option maxHeartbeats 4000000 in
theorem rv1 (xgen xep xblk xlog xst xpl xrt xcnt xver b : Int) (w : World) (f0 : (xblk != b) = false) (f1 : decide (b < 64) = true) : Calls Try.prog 27 #[.agg #[.int .i64 xgen, .int .i64 xep, .int .i64 xblk, .int .i64 xlog, .int .i64 xst, .int .i64 xpl, .int .i64 xrt, .int .i64 xcnt, .int .i64 xver], .int .i64 b] w fun e w' => e = .returned (.bool false) ∧ Below w.heap.size w w' := by
  obtain ⟨Y, hY⟩ : ∃ Y, Y = w.alloc (.cells #[.int .i64 xgen, .int .i64 xep, .int .i64 xblk, .int .i64 xlog, .int .i64 xst, .int .i64 xpl, .int .i64 xrt, .int .i64 xcnt, .int .i64 xver] 25) := ⟨_, rfl⟩
  have BB : Hid (Below w.heap.size w Y) := Lib.hid (by rw [hY]; exact (Below.refl _ _).alloc (Nat.le_refl _) _)
  have GY : Y.heap[w.heap.size]? = some (.cells (Sup.mk xgen xep xblk xlog xst xpl xrt xcnt xver).arr 25 (0, 0)) := by rw [hY]; exact heap_alloc_new _ _
  obtain ⟨y0, y1, y2, y3, y4, y5, y6, y7, y8⟩ := sup_cells GY
  simp only at y0 y1 y2 y3 y4 y5 y6 y7 y8
  have hY' := hY.symm
  clear hY GY
  go_enter Try.func27, Try.ntmps27
  go_wp2_with (fail)
  go_ret
  exact ⟨rfl, BB.out⟩
set_option maxRecDepth 100000 in
set_option maxHeartbeats 4000000 in
theorem rv2 (xgen xep xblk xlog xst xpl xrt xcnt xver b : Int) (w : World) (f0 : (xblk != b) = false) (f1 : decide (b < 64) = false) (f2 : decide (b > 4096) = true) : Calls Try.prog 27 #[.agg #[.int .i64 xgen, .int .i64 xep, .int .i64 xblk, .int .i64 xlog, .int .i64 xst, .int .i64 xpl, .int .i64 xrt, .int .i64 xcnt, .int .i64 xver], .int .i64 b] w fun e w' => e = .returned (.bool false) ∧ Below w.heap.size w w' := by
  obtain ⟨Y, hY⟩ : ∃ Y, Y = w.alloc (.cells #[.int .i64 xgen, .int .i64 xep, .int .i64 xblk, .int .i64 xlog, .int .i64 xst, .int .i64 xpl, .int .i64 xrt, .int .i64 xcnt, .int .i64 xver] 25) := ⟨_, rfl⟩
  have BB : Hid (Below w.heap.size w Y) := Lib.hid (by rw [hY]; exact (Below.refl _ _).alloc (Nat.le_refl _) _)
  have GY : Y.heap[w.heap.size]? = some (.cells (Sup.mk xgen xep xblk xlog xst xpl xrt xcnt xver).arr 25 (0, 0)) := by rw [hY]; exact heap_alloc_new _ _
  obtain ⟨y0, y1, y2, y3, y4, y5, y6, y7, y8⟩ := sup_cells GY
  simp only at y0 y1 y2 y3 y4 y5 y6 y7 y8
  have hY' := hY.symm
  clear hY GY
  go_enter Try.func27, Try.ntmps27
  go_wp2_with (fail)
  go_ret
  exact ⟨rfl, BB.out⟩
set_option maxRecDepth 100000 in
set_option maxHeartbeats 4000000 in
theorem rv3 (xgen xep xblk xlog xst xpl xrt xcnt xver b : Int) (w : World) (f0 : (xblk != b) = false) (f1 : decide (b < 64) = false) (f2 : decide (b > 4096) = false) (f3 : decide (xlog < 8) = true) : Calls Try.prog 27 #[.agg #[.int .i64 xgen, .int .i64 xep, .int .i64 xblk, .int .i64 xlog, .int .i64 xst, .int .i64 xpl, .int .i64 xrt, .int .i64 xcnt, .int .i64 xver], .int .i64 b] w fun e w' => e = .returned (.bool false) ∧ Below w.heap.size w w' := by
  obtain ⟨Y, hY⟩ : ∃ Y, Y = w.alloc (.cells #[.int .i64 xgen, .int .i64 xep, .int .i64 xblk, .int .i64 xlog, .int .i64 xst, .int .i64 xpl, .int .i64 xrt, .int .i64 xcnt, .int .i64 xver] 25) := ⟨_, rfl⟩
  have BB : Hid (Below w.heap.size w Y) := Lib.hid (by rw [hY]; exact (Below.refl _ _).alloc (Nat.le_refl _) _)
  have GY : Y.heap[w.heap.size]? = some (.cells (Sup.mk xgen xep xblk xlog xst xpl xrt xcnt xver).arr 25 (0, 0)) := by rw [hY]; exact heap_alloc_new _ _
  obtain ⟨y0, y1, y2, y3, y4, y5, y6, y7, y8⟩ := sup_cells GY
  simp only at y0 y1 y2 y3 y4 y5 y6 y7 y8
  have hY' := hY.symm
  clear hY GY
  go_enter Try.func27, Try.ntmps27
  go_wp2_with (fail)
  go_ret
  exact ⟨rfl, BB.out⟩
set_option maxRecDepth 100000 in
set_option maxHeartbeats 4000000 in
theorem rv4 (xgen xep xblk xlog xst xpl xrt xcnt xver b : Int) (w : World) (f0 : (xblk != b) = false) (f1 : decide (b < 64) = false) (f2 : decide (b > 4096) = false) (f3 : decide (xlog < 8) = false) (f4 : decide (xlog > 512) = true) : Calls Try.prog 27 #[.agg #[.int .i64 xgen, .int .i64 xep, .int .i64 xblk, .int .i64 xlog, .int .i64 xst, .int .i64 xpl, .int .i64 xrt, .int .i64 xcnt, .int .i64 xver], .int .i64 b] w fun e w' => e = .returned (.bool false) ∧ Below w.heap.size w w' := by
  obtain ⟨Y, hY⟩ : ∃ Y, Y = w.alloc (.cells #[.int .i64 xgen, .int .i64 xep, .int .i64 xblk, .int .i64 xlog, .int .i64 xst, .int .i64 xpl, .int .i64 xrt, .int .i64 xcnt, .int .i64 xver] 25) := ⟨_, rfl⟩
  have BB : Hid (Below w.heap.size w Y) := Lib.hid (by rw [hY]; exact (Below.refl _ _).alloc (Nat.le_refl _) _)
  have GY : Y.heap[w.heap.size]? = some (.cells (Sup.mk xgen xep xblk xlog xst xpl xrt xcnt xver).arr 25 (0, 0)) := by rw [hY]; exact heap_alloc_new _ _
  obtain ⟨y0, y1, y2, y3, y4, y5, y6, y7, y8⟩ := sup_cells GY
  simp only at y0 y1 y2 y3 y4 y5 y6 y7 y8
  have hY' := hY.symm
  clear hY GY
  go_enter Try.func27, Try.ntmps27
  go_wp2_with (fail)
  go_ret
  exact ⟨rfl, BB.out⟩
set_option maxRecDepth 100000 in
set_option maxHeartbeats 4000000 in
theorem rv5 (xgen xep xblk xlog xst xpl xrt xcnt xver b : Int) (w : World) (hb1 : 64 ≤ b) (hb2 : b ≤ 4096) (hl1 : 8 ≤ xlog) (hl2 : xlog ≤ 512) (f0 : (xblk != b) = false) (f1 : decide (b < 64) = false) (f2 : decide (b > 4096) = false) (f3 : decide (xlog < 8) = false) (f4 : decide (xlog > 512) = false) (f5 : decide (b - 2 - xlog < 40) = true) : Calls Try.prog 27 #[.agg #[.int .i64 xgen, .int .i64 xep, .int .i64 xblk, .int .i64 xlog, .int .i64 xst, .int .i64 xpl, .int .i64 xrt, .int .i64 xcnt, .int .i64 xver], .int .i64 b] w fun e w' => e = .returned (.bool false) ∧ Below w.heap.size w w' := by
  obtain ⟨Y, hY⟩ : ∃ Y, Y = w.alloc (.cells #[.int .i64 xgen, .int .i64 xep, .int .i64 xblk, .int .i64 xlog, .int .i64 xst, .int .i64 xpl, .int .i64 xrt, .int .i64 xcnt, .int .i64 xver] 25) := ⟨_, rfl⟩
  have BB : Hid (Below w.heap.size w Y) := Lib.hid (by rw [hY]; exact (Below.refl _ _).alloc (Nat.le_refl _) _)
  have GY : Y.heap[w.heap.size]? = some (.cells (Sup.mk xgen xep xblk xlog xst xpl xrt xcnt xver).arr 25 (0, 0)) := by rw [hY]; exact heap_alloc_new _ _
  obtain ⟨y0, y1, y2, y3, y4, y5, y6, y7, y8⟩ := sup_cells GY
  simp only at y0 y1 y2 y3 y4 y5 y6 y7 y8
  have hY' := hY.symm
  clear hY GY
  go_enter Try.func27, Try.ntmps27
  go_wp2_with (fail)
  go_ret
  exact ⟨rfl, BB.out⟩
set_option maxRecDepth 100000 in
set_option maxHeartbeats 4000000 in
theorem rv6 (xgen xep xblk xlog xst xpl xrt xcnt xver b : Int) (w : World) (hb1 : 64 ≤ b) (hb2 : b ≤ 4096) (hl1 : 8 ≤ xlog) (hl2 : xlog ≤ 512) (f0 : (xblk != b) = false) (f1 : decide (b < 64) = false) (f2 : decide (b > 4096) = false) (f3 : decide (xlog < 8) = false) (f4 : decide (xlog > 512) = false) (f5 : decide (b - 2 - xlog < 40) = false) (k6 : upB xgen 1 = false) : Calls Try.prog 27 #[.agg #[.int .i64 xgen, .int .i64 xep, .int .i64 xblk, .int .i64 xlog, .int .i64 xst, .int .i64 xpl, .int .i64 xrt, .int .i64 xcnt, .int .i64 xver], .int .i64 b] w fun e w' => e = .returned (.bool false) ∧ Below w.heap.size w w' := by
  obtain ⟨Y, hY⟩ : ∃ Y, Y = w.alloc (.cells #[.int .i64 xgen, .int .i64 xep, .int .i64 xblk, .int .i64 xlog, .int .i64 xst, .int .i64 xpl, .int .i64 xrt, .int .i64 xcnt, .int .i64 xver] 25) := ⟨_, rfl⟩
  have BB : Hid (Below w.heap.size w Y) := Lib.hid (by rw [hY]; exact (Below.refl _ _).alloc (Nat.le_refl _) _)
  have GY : Y.heap[w.heap.size]? = some (.cells (Sup.mk xgen xep xblk xlog xst xpl xrt xcnt xver).arr 25 (0, 0)) := by rw [hY]; exact heap_alloc_new _ _
  obtain ⟨y0, y1, y2, y3, y4, y5, y6, y7, y8⟩ := sup_cells GY
  simp only at y0 y1 y2 y3 y4 y5 y6 y7 y8
  have hY' := hY.symm
  have S6 : Hid (∀ W, Calls Try.prog 55 #[.int .i64 xgen, .int .i64 1] W fun e w' => e = .returned (.bool false) ∧ w' = W) := Lib.hid (fun W => by have := upTo_any xgen 1 W; rw [k6] at this; exact this)
  have M6 : True := trivial
  clear hY GY k6
  go_enter Try.func27, Try.ntmps27
  go_wp2_with (first | (go_at_call 55; clear M6; refine (S6.out _).mono ?_; rintro e w1 ⟨rfl, rfl⟩))
  go_ret
  exact ⟨rfl, BB.out⟩
set_option maxRecDepth 100000 in
set_option maxHeartbeats 4000000 in
theorem rv7 (xgen xep xblk xlog xst xpl xrt xcnt xver b : Int) (w : World) (hb1 : 64 ≤ b) (hb2 : b ≤ 4096) (hl1 : 8 ≤ xlog) (hl2 : xlog ≤ 512) (f0 : (xblk != b) = false) (f1 : decide (b < 64) = false) (f2 : decide (b > 4096) = false) (f3 : decide (xlog < 8) = false) (f4 : decide (xlog > 512) = false) (f5 : decide (b - 2 - xlog < 40) = false) (k6 : upB xgen 1 = true) (k7 : upB xep 1 = false) : Calls Try.prog 27 #[.agg #[.int .i64 xgen, .int .i64 xep, .int .i64 xblk, .int .i64 xlog, .int .i64 xst, .int .i64 xpl, .int .i64 xrt, .int .i64 xcnt, .int .i64 xver], .int .i64 b] w fun e w' => e = .returned (.bool false) ∧ Below w.heap.size w w' := by
  obtain ⟨Y, hY⟩ : ∃ Y, Y = w.alloc (.cells #[.int .i64 xgen, .int .i64 xep, .int .i64 xblk, .int .i64 xlog, .int .i64 xst, .int .i64 xpl, .int .i64 xrt, .int .i64 xcnt, .int .i64 xver] 25) := ⟨_, rfl⟩
  have BB : Hid (Below w.heap.size w Y) := Lib.hid (by rw [hY]; exact (Below.refl _ _).alloc (Nat.le_refl _) _)
  have GY : Y.heap[w.heap.size]? = some (.cells (Sup.mk xgen xep xblk xlog xst xpl xrt xcnt xver).arr 25 (0, 0)) := by rw [hY]; exact heap_alloc_new _ _
  obtain ⟨y0, y1, y2, y3, y4, y5, y6, y7, y8⟩ := sup_cells GY
  simp only at y0 y1 y2 y3 y4 y5 y6 y7 y8
  have hY' := hY.symm
  have S6 : Hid (∀ W, Calls Try.prog 55 #[.int .i64 xgen, .int .i64 1] W fun e w' => e = .returned (.bool true) ∧ w' = W) := Lib.hid (fun W => by have := upTo_any xgen 1 W; rw [k6] at this; exact this)
  have M6 : True := trivial
  have S7 : Hid (∀ W, Calls Try.prog 55 #[.int .i64 xep, .int .i64 1] W fun e w' => e = .returned (.bool false) ∧ w' = W) := Lib.hid (fun W => by have := upTo_any xep 1 W; rw [k7] at this; exact this)
  have M7 : True := trivial
  clear hY GY k6 k7
  go_enter Try.func27, Try.ntmps27
  go_wp2_with (first | (go_at_call 55; clear M6; refine (S6.out _).mono ?_; rintro e w1 ⟨rfl, rfl⟩) | (go_at_call 55; clear M7; refine (S7.out _).mono ?_; rintro e w1 ⟨rfl, rfl⟩))
  go_ret
  exact ⟨rfl, BB.out⟩
set_option maxRecDepth 100000 in
set_option maxHeartbeats 4000000 in
theorem rv8 (xgen xep xblk xlog xst xpl xrt xcnt xver b : Int) (w : World) (hb1 : 64 ≤ b) (hb2 : b ≤ 4096) (hl1 : 8 ≤ xlog) (hl2 : xlog ≤ 512) (f0 : (xblk != b) = false) (f1 : decide (b < 64) = false) (f2 : decide (b > 4096) = false) (f3 : decide (xlog < 8) = false) (f4 : decide (xlog > 512) = false) (f5 : decide (b - 2 - xlog < 40) = false) (k6 : upB xgen 1 = true) (k7 : upB xep 1 = true) (k8 : upB xst 1 = false) : Calls Try.prog 27 #[.agg #[.int .i64 xgen, .int .i64 xep, .int .i64 xblk, .int .i64 xlog, .int .i64 xst, .int .i64 xpl, .int .i64 xrt, .int .i64 xcnt, .int .i64 xver], .int .i64 b] w fun e w' => e = .returned (.bool false) ∧ Below w.heap.size w w' := by
  obtain ⟨Y, hY⟩ : ∃ Y, Y = w.alloc (.cells #[.int .i64 xgen, .int .i64 xep, .int .i64 xblk, .int .i64 xlog, .int .i64 xst, .int .i64 xpl, .int .i64 xrt, .int .i64 xcnt, .int .i64 xver] 25) := ⟨_, rfl⟩
  have BB : Hid (Below w.heap.size w Y) := Lib.hid (by rw [hY]; exact (Below.refl _ _).alloc (Nat.le_refl _) _)
  have GY : Y.heap[w.heap.size]? = some (.cells (Sup.mk xgen xep xblk xlog xst xpl xrt xcnt xver).arr 25 (0, 0)) := by rw [hY]; exact heap_alloc_new _ _
  obtain ⟨y0, y1, y2, y3, y4, y5, y6, y7, y8⟩ := sup_cells GY
  simp only at y0 y1 y2 y3 y4 y5 y6 y7 y8
  have hY' := hY.symm
  have S6 : Hid (∀ W, Calls Try.prog 55 #[.int .i64 xgen, .int .i64 1] W fun e w' => e = .returned (.bool true) ∧ w' = W) := Lib.hid (fun W => by have := upTo_any xgen 1 W; rw [k6] at this; exact this)
  have M6 : True := trivial
  have S7 : Hid (∀ W, Calls Try.prog 55 #[.int .i64 xep, .int .i64 1] W fun e w' => e = .returned (.bool true) ∧ w' = W) := Lib.hid (fun W => by have := upTo_any xep 1 W; rw [k7] at this; exact this)
  have M7 : True := trivial
  have S8 : Hid (∀ W, Calls Try.prog 55 #[.int .i64 xst, .int .i64 1] W fun e w' => e = .returned (.bool false) ∧ w' = W) := Lib.hid (fun W => by have := upTo_any xst 1 W; rw [k8] at this; exact this)
  have M8 : True := trivial
  clear hY GY k6 k7 k8
  go_enter Try.func27, Try.ntmps27
  go_wp2_with (first | (go_at_call 55; clear M6; refine (S6.out _).mono ?_; rintro e w1 ⟨rfl, rfl⟩) | (go_at_call 55; clear M7; refine (S7.out _).mono ?_; rintro e w1 ⟨rfl, rfl⟩) | (go_at_call 55; clear M8; refine (S8.out _).mono ?_; rintro e w1 ⟨rfl, rfl⟩))
  go_ret
  exact ⟨rfl, BB.out⟩
set_option maxRecDepth 100000 in
set_option maxHeartbeats 4000000 in
theorem rv9 (xgen xep xblk xlog xst xpl xrt xcnt xver b : Int) (w : World) (hb1 : 64 ≤ b) (hb2 : b ≤ 4096) (hl1 : 8 ≤ xlog) (hl2 : xlog ≤ 512) (f0 : (xblk != b) = false) (f1 : decide (b < 64) = false) (f2 : decide (b > 4096) = false) (f3 : decide (xlog < 8) = false) (f4 : decide (xlog > 512) = false) (f5 : decide (b - 2 - xlog < 40) = false) (k6 : upB xgen 1 = true) (k7 : upB xep 1 = true) (k8 : upB xst 1 = true) (k9 : upB xver 0 = false) : Calls Try.prog 27 #[.agg #[.int .i64 xgen, .int .i64 xep, .int .i64 xblk, .int .i64 xlog, .int .i64 xst, .int .i64 xpl, .int .i64 xrt, .int .i64 xcnt, .int .i64 xver], .int .i64 b] w fun e w' => e = .returned (.bool false) ∧ Below w.heap.size w w' := by
  obtain ⟨Y, hY⟩ : ∃ Y, Y = w.alloc (.cells #[.int .i64 xgen, .int .i64 xep, .int .i64 xblk, .int .i64 xlog, .int .i64 xst, .int .i64 xpl, .int .i64 xrt, .int .i64 xcnt, .int .i64 xver] 25) := ⟨_, rfl⟩
  have BB : Hid (Below w.heap.size w Y) := Lib.hid (by rw [hY]; exact (Below.refl _ _).alloc (Nat.le_refl _) _)
  have GY : Y.heap[w.heap.size]? = some (.cells (Sup.mk xgen xep xblk xlog xst xpl xrt xcnt xver).arr 25 (0, 0)) := by rw [hY]; exact heap_alloc_new _ _
  obtain ⟨y0, y1, y2, y3, y4, y5, y6, y7, y8⟩ := sup_cells GY
  simp only at y0 y1 y2 y3 y4 y5 y6 y7 y8
  have hY' := hY.symm
  have S6 : Hid (∀ W, Calls Try.prog 55 #[.int .i64 xgen, .int .i64 1] W fun e w' => e = .returned (.bool true) ∧ w' = W) := Lib.hid (fun W => by have := upTo_any xgen 1 W; rw [k6] at this; exact this)
  have M6 : True := trivial
  have S7 : Hid (∀ W, Calls Try.prog 55 #[.int .i64 xep, .int .i64 1] W fun e w' => e = .returned (.bool true) ∧ w' = W) := Lib.hid (fun W => by have := upTo_any xep 1 W; rw [k7] at this; exact this)
  have M7 : True := trivial
  have S8 : Hid (∀ W, Calls Try.prog 55 #[.int .i64 xst, .int .i64 1] W fun e w' => e = .returned (.bool true) ∧ w' = W) := Lib.hid (fun W => by have := upTo_any xst 1 W; rw [k8] at this; exact this)
  have M8 : True := trivial
  have S9 : Hid (∀ W, Calls Try.prog 55 #[.int .i64 xver, .int .i64 0] W fun e w' => e = .returned (.bool false) ∧ w' = W) := Lib.hid (fun W => by have := upTo_any xver 0 W; rw [k9] at this; exact this)
  have M9 : True := trivial
  clear hY GY k6 k7 k8 k9
  go_enter Try.func27, Try.ntmps27
  go_wp2_with (first | (go_at_call 55; clear M6; refine (S6.out _).mono ?_; rintro e w1 ⟨rfl, rfl⟩) | (go_at_call 55; clear M7; refine (S7.out _).mono ?_; rintro e w1 ⟨rfl, rfl⟩) | (go_at_call 55; clear M8; refine (S8.out _).mono ?_; rintro e w1 ⟨rfl, rfl⟩) | (go_at_call 55; clear M9; refine (S9.out _).mono ?_; rintro e w1 ⟨rfl, rfl⟩))
  go_ret
  exact ⟨rfl, BB.out⟩
set_option maxRecDepth 100000 in
set_option maxHeartbeats 4000000 in
theorem rv10 (xgen xep xblk xlog xst xpl xrt xcnt xver m b : Int) (w : World) (hb1 : 64 ≤ b) (hb2 : b ≤ 4096) (hl1 : 8 ≤ xlog) (hl2 : xlog ≤ 512) (hs1 : 1 ≤ xst) (hs2 : xst ≤ 1152921500311879680) (hm : (xst - 1).tmod xlog = m) (f0 : (xblk != b) = false) (f1 : decide (b < 64) = false) (f2 : decide (b > 4096) = false) (f3 : decide (xlog < 8) = false) (f4 : decide (xlog > 512) = false) (f5 : decide (b - 2 - xlog < 40) = false) (f10 : (xpl != m) = true) (k6 : upB xgen 1 = true) (k7 : upB xep 1 = true) (k8 : upB xst 1 = true) (k9 : upB xver 0 = true) : Calls Try.prog 27 #[.agg #[.int .i64 xgen, .int .i64 xep, .int .i64 xblk, .int .i64 xlog, .int .i64 xst, .int .i64 xpl, .int .i64 xrt, .int .i64 xcnt, .int .i64 xver], .int .i64 b] w fun e w' => e = .returned (.bool false) ∧ Below w.heap.size w w' := by
  obtain ⟨Y, hY⟩ : ∃ Y, Y = w.alloc (.cells #[.int .i64 xgen, .int .i64 xep, .int .i64 xblk, .int .i64 xlog, .int .i64 xst, .int .i64 xpl, .int .i64 xrt, .int .i64 xcnt, .int .i64 xver] 25) := ⟨_, rfl⟩
  have BB : Hid (Below w.heap.size w Y) := Lib.hid (by rw [hY]; exact (Below.refl _ _).alloc (Nat.le_refl _) _)
  have GY : Y.heap[w.heap.size]? = some (.cells (Sup.mk xgen xep xblk xlog xst xpl xrt xcnt xver).arr 25 (0, 0)) := by rw [hY]; exact heap_alloc_new _ _
  obtain ⟨y0, y1, y2, y3, y4, y5, y6, y7, y8⟩ := sup_cells GY
  simp only at y0 y1 y2 y3 y4 y5 y6 y7 y8
  have hY' := hY.symm
  have S6 : Hid (∀ W, Calls Try.prog 55 #[.int .i64 xgen, .int .i64 1] W fun e w' => e = .returned (.bool true) ∧ w' = W) := Lib.hid (fun W => by have := upTo_any xgen 1 W; rw [k6] at this; exact this)
  have M6 : True := trivial
  have S7 : Hid (∀ W, Calls Try.prog 55 #[.int .i64 xep, .int .i64 1] W fun e w' => e = .returned (.bool true) ∧ w' = W) := Lib.hid (fun W => by have := upTo_any xep 1 W; rw [k7] at this; exact this)
  have M7 : True := trivial
  have S8 : Hid (∀ W, Calls Try.prog 55 #[.int .i64 xst, .int .i64 1] W fun e w' => e = .returned (.bool true) ∧ w' = W) := Lib.hid (fun W => by have := upTo_any xst 1 W; rw [k8] at this; exact this)
  have M8 : True := trivial
  have S9 : Hid (∀ W, Calls Try.prog 55 #[.int .i64 xver, .int .i64 0] W fun e w' => e = .returned (.bool true) ∧ w' = W) := Lib.hid (fun W => by have := upTo_any xver 0 W; rw [k9] at this; exact this)
  have M9 : True := trivial
  clear hY GY k6 k7 k8 k9
  have hn0 : ¬ xlog = 0 := by omega
  go_enter Try.func27, Try.ntmps27
  go_wp2_with (first | (go_at_call 55; clear M6; refine (S6.out _).mono ?_; rintro e w1 ⟨rfl, rfl⟩) | (go_at_call 55; clear M7; refine (S7.out _).mono ?_; rintro e w1 ⟨rfl, rfl⟩) | (go_at_call 55; clear M8; refine (S8.out _).mono ?_; rintro e w1 ⟨rfl, rfl⟩) | (go_at_call 55; clear M9; refine (S9.out _).mono ?_; rintro e w1 ⟨rfl, rfl⟩))
  go_quiet (fail)
  have BN := Lib.hid (BB.out.trans ((below_drawn _ nq).mono BB.out.size))
  go_wp2_with (fail)
  go_ret
  exact ⟨rfl, BN.out⟩
set_option maxRecDepth 100000 in
set_option maxHeartbeats 4000000 in
theorem rv11 (xgen xep xblk xlog xst xpl xrt xcnt xver m b : Int) (w : World) (hb1 : 64 ≤ b) (hb2 : b ≤ 4096) (hl1 : 8 ≤ xlog) (hl2 : xlog ≤ 512) (hs1 : 1 ≤ xst) (hs2 : xst ≤ 1152921500311879680) (hm : (xst - 1).tmod xlog = m) (f0 : (xblk != b) = false) (f1 : decide (b < 64) = false) (f2 : decide (b > 4096) = false) (f3 : decide (xlog < 8) = false) (f4 : decide (xlog > 512) = false) (f5 : decide (b - 2 - xlog < 40) = false) (f10 : (xpl != m) = false) (k6 : upB xgen 1 = true) (k7 : upB xep 1 = true) (k8 : upB xst 1 = true) (k9 : upB xver 0 = true) (c : Bool) (g0 : (xrt == 0) = true) (g1 : (xcnt == 0) = c) : Calls Try.prog 27 #[.agg #[.int .i64 xgen, .int .i64 xep, .int .i64 xblk, .int .i64 xlog, .int .i64 xst, .int .i64 xpl, .int .i64 xrt, .int .i64 xcnt, .int .i64 xver], .int .i64 b] w fun e w' => e = .returned (.bool c) ∧ Below w.heap.size w w' := by
  obtain ⟨Y, hY⟩ : ∃ Y, Y = w.alloc (.cells #[.int .i64 xgen, .int .i64 xep, .int .i64 xblk, .int .i64 xlog, .int .i64 xst, .int .i64 xpl, .int .i64 xrt, .int .i64 xcnt, .int .i64 xver] 25) := ⟨_, rfl⟩
  have BB : Hid (Below w.heap.size w Y) := Lib.hid (by rw [hY]; exact (Below.refl _ _).alloc (Nat.le_refl _) _)
  have GY : Y.heap[w.heap.size]? = some (.cells (Sup.mk xgen xep xblk xlog xst xpl xrt xcnt xver).arr 25 (0, 0)) := by rw [hY]; exact heap_alloc_new _ _
  obtain ⟨y0, y1, y2, y3, y4, y5, y6, y7, y8⟩ := sup_cells GY
  simp only at y0 y1 y2 y3 y4 y5 y6 y7 y8
  have hY' := hY.symm
  have S6 : Hid (∀ W, Calls Try.prog 55 #[.int .i64 xgen, .int .i64 1] W fun e w' => e = .returned (.bool true) ∧ w' = W) := Lib.hid (fun W => by have := upTo_any xgen 1 W; rw [k6] at this; exact this)
  have M6 : True := trivial
  have S7 : Hid (∀ W, Calls Try.prog 55 #[.int .i64 xep, .int .i64 1] W fun e w' => e = .returned (.bool true) ∧ w' = W) := Lib.hid (fun W => by have := upTo_any xep 1 W; rw [k7] at this; exact this)
  have M7 : True := trivial
  have S8 : Hid (∀ W, Calls Try.prog 55 #[.int .i64 xst, .int .i64 1] W fun e w' => e = .returned (.bool true) ∧ w' = W) := Lib.hid (fun W => by have := upTo_any xst 1 W; rw [k8] at this; exact this)
  have M8 : True := trivial
  have S9 : Hid (∀ W, Calls Try.prog 55 #[.int .i64 xver, .int .i64 0] W fun e w' => e = .returned (.bool true) ∧ w' = W) := Lib.hid (fun W => by have := upTo_any xver 0 W; rw [k9] at this; exact this)
  have M9 : True := trivial
  clear hY GY k6 k7 k8 k9
  have hn0 : ¬ xlog = 0 := by omega
  go_enter Try.func27, Try.ntmps27
  go_wp2_with (first | (go_at_call 55; clear M6; refine (S6.out _).mono ?_; rintro e w1 ⟨rfl, rfl⟩) | (go_at_call 55; clear M7; refine (S7.out _).mono ?_; rintro e w1 ⟨rfl, rfl⟩) | (go_at_call 55; clear M8; refine (S8.out _).mono ?_; rintro e w1 ⟨rfl, rfl⟩) | (go_at_call 55; clear M9; refine (S9.out _).mono ?_; rintro e w1 ⟨rfl, rfl⟩))
  go_quiet (fail)
  have BN := Lib.hid (BB.out.trans ((below_drawn _ nq).mono BB.out.size))
  go_wp2_with (fail)
  go_ret
  exact ⟨rfl, BN.out⟩
set_option maxRecDepth 100000 in
set_option maxHeartbeats 4000000 in
theorem rv12 (xgen xep xblk xlog xst xpl xrt xcnt xver m b : Int) (w : World) (hb1 : 64 ≤ b) (hb2 : b ≤ 4096) (hl1 : 8 ≤ xlog) (hl2 : xlog ≤ 512) (hs1 : 1 ≤ xst) (hs2 : xst ≤ 1152921500311879680) (hm : (xst - 1).tmod xlog = m) (f0 : (xblk != b) = false) (f1 : decide (b < 64) = false) (f2 : decide (b > 4096) = false) (f3 : decide (xlog < 8) = false) (f4 : decide (xlog > 512) = false) (f5 : decide (b - 2 - xlog < 40) = false) (f10 : (xpl != m) = false) (k6 : upB xgen 1 = true) (k7 : upB xep 1 = true) (k8 : upB xst 1 = true) (k9 : upB xver 0 = true) (g0 : (xrt == 0) = false) (g1 : decide (xrt ≥ 2 + xlog) = false) : Calls Try.prog 27 #[.agg #[.int .i64 xgen, .int .i64 xep, .int .i64 xblk, .int .i64 xlog, .int .i64 xst, .int .i64 xpl, .int .i64 xrt, .int .i64 xcnt, .int .i64 xver], .int .i64 b] w fun e w' => e = .returned (.bool false) ∧ Below w.heap.size w w' := by
  obtain ⟨Y, hY⟩ : ∃ Y, Y = w.alloc (.cells #[.int .i64 xgen, .int .i64 xep, .int .i64 xblk, .int .i64 xlog, .int .i64 xst, .int .i64 xpl, .int .i64 xrt, .int .i64 xcnt, .int .i64 xver] 25) := ⟨_, rfl⟩
  have BB : Hid (Below w.heap.size w Y) := Lib.hid (by rw [hY]; exact (Below.refl _ _).alloc (Nat.le_refl _) _)
  have GY : Y.heap[w.heap.size]? = some (.cells (Sup.mk xgen xep xblk xlog xst xpl xrt xcnt xver).arr 25 (0, 0)) := by rw [hY]; exact heap_alloc_new _ _
  obtain ⟨y0, y1, y2, y3, y4, y5, y6, y7, y8⟩ := sup_cells GY
  simp only at y0 y1 y2 y3 y4 y5 y6 y7 y8
  have hY' := hY.symm
  have S6 : Hid (∀ W, Calls Try.prog 55 #[.int .i64 xgen, .int .i64 1] W fun e w' => e = .returned (.bool true) ∧ w' = W) := Lib.hid (fun W => by have := upTo_any xgen 1 W; rw [k6] at this; exact this)
  have M6 : True := trivial
  have S7 : Hid (∀ W, Calls Try.prog 55 #[.int .i64 xep, .int .i64 1] W fun e w' => e = .returned (.bool true) ∧ w' = W) := Lib.hid (fun W => by have := upTo_any xep 1 W; rw [k7] at this; exact this)
  have M7 : True := trivial
  have S8 : Hid (∀ W, Calls Try.prog 55 #[.int .i64 xst, .int .i64 1] W fun e w' => e = .returned (.bool true) ∧ w' = W) := Lib.hid (fun W => by have := upTo_any xst 1 W; rw [k8] at this; exact this)
  have M8 : True := trivial
  have S9 : Hid (∀ W, Calls Try.prog 55 #[.int .i64 xver, .int .i64 0] W fun e w' => e = .returned (.bool true) ∧ w' = W) := Lib.hid (fun W => by have := upTo_any xver 0 W; rw [k9] at this; exact this)
  have M9 : True := trivial
  clear hY GY k6 k7 k8 k9
  have hn0 : ¬ xlog = 0 := by omega
  go_enter Try.func27, Try.ntmps27
  go_wp2_with (first | (go_at_call 55; clear M6; refine (S6.out _).mono ?_; rintro e w1 ⟨rfl, rfl⟩) | (go_at_call 55; clear M7; refine (S7.out _).mono ?_; rintro e w1 ⟨rfl, rfl⟩) | (go_at_call 55; clear M8; refine (S8.out _).mono ?_; rintro e w1 ⟨rfl, rfl⟩) | (go_at_call 55; clear M9; refine (S9.out _).mono ?_; rintro e w1 ⟨rfl, rfl⟩))
  go_quiet (fail)
  have BN := Lib.hid (BB.out.trans ((below_drawn _ nq).mono BB.out.size))
  go_wp2_with (fail)
  go_ret
  exact ⟨rfl, BN.out⟩
set_option maxRecDepth 100000 in
set_option maxHeartbeats 4000000 in
theorem rv13 (xgen xep xblk xlog xst xpl xrt xcnt xver m b : Int) (w : World) (hb1 : 64 ≤ b) (hb2 : b ≤ 4096) (hl1 : 8 ≤ xlog) (hl2 : xlog ≤ 512) (hs1 : 1 ≤ xst) (hs2 : xst ≤ 1152921500311879680) (hm : (xst - 1).tmod xlog = m) (f0 : (xblk != b) = false) (f1 : decide (b < 64) = false) (f2 : decide (b > 4096) = false) (f3 : decide (xlog < 8) = false) (f4 : decide (xlog > 512) = false) (f5 : decide (b - 2 - xlog < 40) = false) (f10 : (xpl != m) = false) (k6 : upB xgen 1 = true) (k7 : upB xep 1 = true) (k8 : upB xst 1 = true) (k9 : upB xver 0 = true) (g0 : (xrt == 0) = false) (g1 : decide (xrt ≥ 2 + xlog) = true) (g2 : decide (xrt < b) = false) : Calls Try.prog 27 #[.agg #[.int .i64 xgen, .int .i64 xep, .int .i64 xblk, .int .i64 xlog, .int .i64 xst, .int .i64 xpl, .int .i64 xrt, .int .i64 xcnt, .int .i64 xver], .int .i64 b] w fun e w' => e = .returned (.bool false) ∧ Below w.heap.size w w' := by
  obtain ⟨Y, hY⟩ : ∃ Y, Y = w.alloc (.cells #[.int .i64 xgen, .int .i64 xep, .int .i64 xblk, .int .i64 xlog, .int .i64 xst, .int .i64 xpl, .int .i64 xrt, .int .i64 xcnt, .int .i64 xver] 25) := ⟨_, rfl⟩
  have BB : Hid (Below w.heap.size w Y) := Lib.hid (by rw [hY]; exact (Below.refl _ _).alloc (Nat.le_refl _) _)
  have GY : Y.heap[w.heap.size]? = some (.cells (Sup.mk xgen xep xblk xlog xst xpl xrt xcnt xver).arr 25 (0, 0)) := by rw [hY]; exact heap_alloc_new _ _
  obtain ⟨y0, y1, y2, y3, y4, y5, y6, y7, y8⟩ := sup_cells GY
  simp only at y0 y1 y2 y3 y4 y5 y6 y7 y8
  have hY' := hY.symm
  have S6 : Hid (∀ W, Calls Try.prog 55 #[.int .i64 xgen, .int .i64 1] W fun e w' => e = .returned (.bool true) ∧ w' = W) := Lib.hid (fun W => by have := upTo_any xgen 1 W; rw [k6] at this; exact this)
  have M6 : True := trivial
  have S7 : Hid (∀ W, Calls Try.prog 55 #[.int .i64 xep, .int .i64 1] W fun e w' => e = .returned (.bool true) ∧ w' = W) := Lib.hid (fun W => by have := upTo_any xep 1 W; rw [k7] at this; exact this)
  have M7 : True := trivial
  have S8 : Hid (∀ W, Calls Try.prog 55 #[.int .i64 xst, .int .i64 1] W fun e w' => e = .returned (.bool true) ∧ w' = W) := Lib.hid (fun W => by have := upTo_any xst 1 W; rw [k8] at this; exact this)
  have M8 : True := trivial
  have S9 : Hid (∀ W, Calls Try.prog 55 #[.int .i64 xver, .int .i64 0] W fun e w' => e = .returned (.bool true) ∧ w' = W) := Lib.hid (fun W => by have := upTo_any xver 0 W; rw [k9] at this; exact this)
  have M9 : True := trivial
  clear hY GY k6 k7 k8 k9
  have hn0 : ¬ xlog = 0 := by omega
  go_enter Try.func27, Try.ntmps27
  go_wp2_with (first | (go_at_call 55; clear M6; refine (S6.out _).mono ?_; rintro e w1 ⟨rfl, rfl⟩) | (go_at_call 55; clear M7; refine (S7.out _).mono ?_; rintro e w1 ⟨rfl, rfl⟩) | (go_at_call 55; clear M8; refine (S8.out _).mono ?_; rintro e w1 ⟨rfl, rfl⟩) | (go_at_call 55; clear M9; refine (S9.out _).mono ?_; rintro e w1 ⟨rfl, rfl⟩))
  go_quiet (fail)
  have BN := Lib.hid (BB.out.trans ((below_drawn _ nq).mono BB.out.size))
  go_wp2_with (fail)
  go_ret
  exact ⟨rfl, BN.out⟩
set_option maxRecDepth 100000 in
set_option maxHeartbeats 4000000 in
theorem rv14 (xgen xep xblk xlog xst xpl xrt xcnt xver m b : Int) (w : World) (hb1 : 64 ≤ b) (hb2 : b ≤ 4096) (hl1 : 8 ≤ xlog) (hl2 : xlog ≤ 512) (hs1 : 1 ≤ xst) (hs2 : xst ≤ 1152921500311879680) (hm : (xst - 1).tmod xlog = m) (f0 : (xblk != b) = false) (f1 : decide (b < 64) = false) (f2 : decide (b > 4096) = false) (f3 : decide (xlog < 8) = false) (f4 : decide (xlog > 512) = false) (f5 : decide (b - 2 - xlog < 40) = false) (f10 : (xpl != m) = false) (k6 : upB xgen 1 = true) (k7 : upB xep 1 = true) (k8 : upB xst 1 = true) (k9 : upB xver 0 = true) (c : Bool) (g0 : (xrt == 0) = false) (g1 : decide (xrt ≥ 2 + xlog) = true) (g2 : decide (xrt < b) = true) (kc : upB xcnt 1 = c) : Calls Try.prog 27 #[.agg #[.int .i64 xgen, .int .i64 xep, .int .i64 xblk, .int .i64 xlog, .int .i64 xst, .int .i64 xpl, .int .i64 xrt, .int .i64 xcnt, .int .i64 xver], .int .i64 b] w fun e w' => e = .returned (.bool c) ∧ Below w.heap.size w w' := by
  obtain ⟨Y, hY⟩ : ∃ Y, Y = w.alloc (.cells #[.int .i64 xgen, .int .i64 xep, .int .i64 xblk, .int .i64 xlog, .int .i64 xst, .int .i64 xpl, .int .i64 xrt, .int .i64 xcnt, .int .i64 xver] 25) := ⟨_, rfl⟩
  have BB : Hid (Below w.heap.size w Y) := Lib.hid (by rw [hY]; exact (Below.refl _ _).alloc (Nat.le_refl _) _)
  have GY : Y.heap[w.heap.size]? = some (.cells (Sup.mk xgen xep xblk xlog xst xpl xrt xcnt xver).arr 25 (0, 0)) := by rw [hY]; exact heap_alloc_new _ _
  obtain ⟨y0, y1, y2, y3, y4, y5, y6, y7, y8⟩ := sup_cells GY
  simp only at y0 y1 y2 y3 y4 y5 y6 y7 y8
  have hY' := hY.symm
  have S6 : Hid (∀ W, Calls Try.prog 55 #[.int .i64 xgen, .int .i64 1] W fun e w' => e = .returned (.bool true) ∧ w' = W) := Lib.hid (fun W => by have := upTo_any xgen 1 W; rw [k6] at this; exact this)
  have M6 : True := trivial
  have S7 : Hid (∀ W, Calls Try.prog 55 #[.int .i64 xep, .int .i64 1] W fun e w' => e = .returned (.bool true) ∧ w' = W) := Lib.hid (fun W => by have := upTo_any xep 1 W; rw [k7] at this; exact this)
  have M7 : True := trivial
  have S8 : Hid (∀ W, Calls Try.prog 55 #[.int .i64 xst, .int .i64 1] W fun e w' => e = .returned (.bool true) ∧ w' = W) := Lib.hid (fun W => by have := upTo_any xst 1 W; rw [k8] at this; exact this)
  have M8 : True := trivial
  have S9 : Hid (∀ W, Calls Try.prog 55 #[.int .i64 xver, .int .i64 0] W fun e w' => e = .returned (.bool true) ∧ w' = W) := Lib.hid (fun W => by have := upTo_any xver 0 W; rw [k9] at this; exact this)
  have M9 : True := trivial
  have SC : Hid (∀ W, Calls Try.prog 55 #[.int .i64 xcnt, .int .i64 1] W fun e w' => e = .returned (.bool c) ∧ w' = W) := Lib.hid (fun W => by have := upTo_any xcnt 1 W; rw [kc] at this; exact this)
  have MC : True := trivial
  clear hY GY k6 k7 k8 k9 kc
  have hn0 : ¬ xlog = 0 := by omega
  go_enter Try.func27, Try.ntmps27
  go_wp2_with (first | (go_at_call 55; clear M6; refine (S6.out _).mono ?_; rintro e w1 ⟨rfl, rfl⟩) | (go_at_call 55; clear M7; refine (S7.out _).mono ?_; rintro e w1 ⟨rfl, rfl⟩) | (go_at_call 55; clear M8; refine (S8.out _).mono ?_; rintro e w1 ⟨rfl, rfl⟩) | (go_at_call 55; clear M9; refine (S9.out _).mono ?_; rintro e w1 ⟨rfl, rfl⟩))
  go_quiet (fail)
  have BN := Lib.hid (BB.out.trans ((below_drawn _ nq).mono BB.out.size))
  go_wp2_with (first | (go_at_call 55; clear MC; refine (SC.out _).mono ?_; rintro e w1 ⟨rfl, rfl⟩))
  go_ret
  exact ⟨rfl, BN.out⟩
theorem rvalid_any (s : Sup) (b : Int) (w : World) : Calls Try.prog 27 #[.agg s.arr, .int .i64 b] w fun e w' => e = .returned (.bool (vaB s b)) ∧ Below w.heap.size w w' := by
  obtain ⟨xgen, xep, xblk, xlog, xst, xpl, xrt, xcnt, xver⟩ := s
  have NO : ∀ (p : Prop), (((Sup.mk xgen xep xblk xlog xst xpl xrt xcnt xver).blk = b ∧ Vd (Sup.mk xgen xep xblk xlog xst xpl xrt xcnt xver)) → p) → ¬ p → vaB (Sup.mk xgen xep xblk xlog xst xpl xrt xcnt xver) b = false := fun p h hp => Bool.eq_false_iff.2 (fun q => hp (h ((va_iff _ _).1 q)))
  show Calls Try.prog 27 #[.agg #[.int .i64 xgen, .int .i64 xep, .int .i64 xblk, .int .i64 xlog, .int .i64 xst, .int .i64 xpl, .int .i64 xrt, .int .i64 xcnt, .int .i64 xver], .int .i64 b] w _
  by_cases h0 : xblk = b
  case neg =>
    rw [NO _ (fun q => q.1) h0]
    exact rv0 _ _ _ _ _ _ _ _ _ b w (by rw [bne_iff_ne]; exact h0)
  have f0 : (xblk != b) = false := by rw [bne_eq_false_iff_eq]; exact h0
  by_cases h1 : 64 ≤ b
  case neg =>
    rw [NO _ (fun q => by have := q.2.b1; have e := q.1; simp only at this e; omega) h1]
    exact rv1 _ _ _ _ _ _ _ _ _ b w f0 (decide_eq_true (by omega))
  have f1 : decide (b < 64) = false := decide_eq_false (by omega)
  by_cases h2 : b ≤ 4096
  case neg =>
    rw [NO _ (fun q => by have := q.2.b2; have e := q.1; simp only at this e; omega) h2]
    exact rv2 _ _ _ _ _ _ _ _ _ b w f0 f1 (decide_eq_true (by omega))
  have f2 : decide (b > 4096) = false := decide_eq_false (by omega)
  by_cases h3 : 8 ≤ xlog
  case neg =>
    rw [NO _ (fun q => q.2.l1) h3]
    exact rv3 _ _ _ _ _ _ _ _ _ b w f0 f1 f2 (decide_eq_true (by omega))
  have f3 : decide (xlog < 8) = false := decide_eq_false (by omega)
  by_cases h4 : xlog ≤ 512
  case neg =>
    rw [NO _ (fun q => q.2.l2) h4]
    exact rv4 _ _ _ _ _ _ _ _ _ b w f0 f1 f2 f3 (decide_eq_true (by omega))
  have f4 : decide (xlog > 512) = false := decide_eq_false (by omega)
  by_cases h5 : 40 ≤ b - 2 - xlog
  case neg =>
    rw [NO _ (fun q => by have := q.2.lb; have e := q.1; simp only at this e; omega) h5]
    exact rv5 _ _ _ _ _ _ _ _ _ b w h1 h2 h3 h4 f0 f1 f2 f3 f4 (decide_eq_true (by omega))
  have f5 : decide (b - 2 - xlog < 40) = false := decide_eq_false (by omega)
  cases k6 : upB xgen 1 with
  | false =>
    rw [NO (upB xgen 1 = true) (fun q => (upB_iff _ _).2 ⟨q.2.g1, q.2.g2⟩) (by rw [k6]; simp)]
    exact rv6 _ _ _ _ _ _ _ _ _ b w h1 h2 h3 h4 f0 f1 f2 f3 f4 f5 k6
  | true =>
    cases k7 : upB xep 1 with
    | false =>
      rw [NO (upB xep 1 = true) (fun q => (upB_iff _ _).2 ⟨q.2.e1, q.2.e2⟩) (by rw [k7]; simp)]
      exact rv7 _ _ _ _ _ _ _ _ _ b w h1 h2 h3 h4 f0 f1 f2 f3 f4 f5 k6 k7
    | true =>
      cases k8 : upB xst 1 with
      | false =>
        rw [NO (upB xst 1 = true) (fun q => (upB_iff _ _).2 ⟨q.2.s1, q.2.s2⟩) (by rw [k8]; simp)]
        exact rv8 _ _ _ _ _ _ _ _ _ b w h1 h2 h3 h4 f0 f1 f2 f3 f4 f5 k6 k7 k8
      | true =>
        cases k9 : upB xver 0 with
        | false =>
          rw [NO (upB xver 0 = true) (fun q => (upB_iff _ _).2 ⟨q.2.v1, q.2.v2⟩) (by rw [k9]; simp)]
          exact rv9 _ _ _ _ _ _ _ _ _ b w h1 h2 h3 h4 f0 f1 f2 f3 f4 f5 k6 k7 k8 k9
        | true =>
          have hs := (upB_iff _ _).1 k8
          have hm : (xst - 1).tmod xlog = (xst - 1) % xlog := Int.tmod_eq_emod_of_nonneg (by omega)
          by_cases h10 : xpl = (xst - 1) % xlog
          case neg =>
            rw [NO _ (fun q => q.2.pl) h10]
            exact rv10 _ _ _ _ _ _ _ _ _ _ b w h1 h2 h3 h4 hs.1 hs.2 hm f0 f1 f2 f3 f4 f5 (by rw [bne_iff_ne]; exact h10) k6 k7 k8 k9
          have f10 : (xpl != (xst - 1) % xlog) = false := by rw [bne_eq_false_iff_eq]; exact h10
          have g6 := (upB_iff _ _).1 k6
          have g7 := (upB_iff _ _).1 k7
          have g9 := (upB_iff _ _).1 k9
          have VV : ((xrt = 0 ∧ xcnt = 0) ∨ (2 + xlog ≤ xrt ∧ xrt < xblk ∧ 1 ≤ xcnt ∧ xcnt ≤ 1152921500311879680)) → vaB (Sup.mk xgen xep xblk xlog xst xpl xrt xcnt xver) b = true := fun q => (va_iff _ _).2 ⟨h0, ⟨by show 64 ≤ xblk; omega, by show xblk ≤ 4096; omega, h3, h4, by show 2 + xlog + 40 ≤ xblk; omega, g6.1, g6.2, g7.1, g7.2, hs.1, hs.2, h10, g9.1, g9.2, q⟩⟩
          by_cases h11 : xrt = 0
          · by_cases h12 : xcnt = 0
            · rw [VV (Or.inl ⟨h11, h12⟩)]
              exact rv11 _ _ _ _ _ _ _ _ _ _ b w h1 h2 h3 h4 hs.1 hs.2 hm f0 f1 f2 f3 f4 f5 f10 k6 k7 k8 k9 true (by rw [beq_iff_eq]; exact h11) (by rw [beq_iff_eq]; exact h12)
            · rw [NO (xcnt = 0) (fun q => by have := q.2.rt; simp only at this; omega) h12]
              exact rv11 _ _ _ _ _ _ _ _ _ _ b w h1 h2 h3 h4 hs.1 hs.2 hm f0 f1 f2 f3 f4 f5 f10 k6 k7 k8 k9 false (by rw [beq_iff_eq]; exact h11) (by rw [beq_eq_false_iff_ne]; exact h12)
          · have e0 : (xrt == 0) = false := by rw [beq_eq_false_iff_ne]; exact h11
            by_cases h12 : xrt ≥ 2 + xlog
            case neg =>
              rw [NO (xrt ≥ 2 + xlog) (fun q => by have := q.2.rt; simp only at this; omega) h12]
              exact rv12 _ _ _ _ _ _ _ _ _ _ b w h1 h2 h3 h4 hs.1 hs.2 hm f0 f1 f2 f3 f4 f5 f10 k6 k7 k8 k9 e0 (decide_eq_false h12)
            by_cases h13 : xrt < b
            case neg =>
              rw [NO (xrt < b) (fun q => by have := q.2.rt; have e := q.1; simp only at this e; omega) h13]
              exact rv13 _ _ _ _ _ _ _ _ _ _ b w h1 h2 h3 h4 hs.1 hs.2 hm f0 f1 f2 f3 f4 f5 f10 k6 k7 k8 k9 e0 (decide_eq_true h12) (decide_eq_false h13)
            cases kc : upB xcnt 1 with
            | false =>
              rw [NO (upB xcnt 1 = true) (fun q => (upB_iff _ _).2 (by have := q.2.rt; simp only at this; omega)) (by rw [kc]; simp)]
              exact rv14 _ _ _ _ _ _ _ _ _ _ b w h1 h2 h3 h4 hs.1 hs.2 hm f0 f1 f2 f3 f4 f5 f10 k6 k7 k8 k9 false e0 (decide_eq_true h12) (decide_eq_true h13) kc
            | true =>
              have gc := (upB_iff _ _).1 kc
              rw [VV (Or.inr ⟨h12, by omega, gc.1, gc.2⟩)]
              exact rv14 _ _ _ _ _ _ _ _ _ _ b w h1 h2 h3 h4 hs.1 hs.2 hm f0 f1 f2 f3 f4 f5 f10 k6 k7 k8 k9 true e0 (decide_eq_true h12) (decide_eq_true h13) kc
end Go.Proofs.Ythjekiddjldehaa
