/-
  ArV, ArA, ArB, ArC, ArE, ArD, joined.
-/
import Derived.Test.YtbdlebengmbooaaAnVv
import Derived.BigQuiet
import Derived.Test.YtbdlebengmbooaaAnC
import Derived.Test.YtbdlebengmbooaaAnE
section S0
namespace Go.Proofs.Ytbdlebengmbooaa
open Go.RowKit Go.Maps
def upB (n l : Int) : Bool := decide (l ≤ n) && decide (n ≤ 1152921500311879680)
theorem upB_iff (n l : Int) : upB n l = true ↔ l ≤ n ∧ n ≤ 1152921500311879680 := by unfold upB; simp only [Bool.and_eq_true, decide_eq_true_iff]
set_option maxHeartbeats 400000 in
theorem upTo_any (n l : Int) (w : World) : Calls Try.prog 53 #[.int .i64 n, .int .i64 l] w fun e w' => e = .returned (.bool (upB n l)) ∧ w' = w := by
  by_cases h1 : n ≥ l
  · have d1 : decide (n ≥ l) = true := decide_eq_true h1
    go_enter Try.func53, Try.ntmps53
    go_wp2_with fail
    go_ret
    refine ⟨?_, rfl⟩
    have : upB n l = decide (n ≤ 1152921500311879680) := by unfold upB; rw [show decide (l ≤ n) = true from d1, Bool.true_and]
    rw [this]
    rfl
  · have d1 : decide (n ≥ l) = false := decide_eq_false h1
    go_enter Try.func53, Try.ntmps53
    go_wp2_with fail
    go_ret
    refine ⟨?_, rfl⟩
    have : upB n l = false := by unfold upB; rw [show decide (l ≤ n) = false from d1, Bool.false_and]
    rw [this]
    rfl
theorem va_iff (s : Sup) (b : Int) : vaB s b = true ↔ s.blk = b ∧ Vd s := by
  constructor
  · intro h
    have e : s.blk = b := by unfold vaB at h; rw [Bool.and_eq_true, decide_eq_true_iff] at h; exact h.1
    exact ⟨e, (vd_iff s).1 (by rw [e]; exact h)⟩
  · rintro ⟨e, h⟩
    rw [← e]
    exact (vd_iff s).2 h
set_option maxRecDepth 100000 in
set_option maxHeartbeats 4000000 in
theorem rv0 (xgen xep xblk xlog xst xpl xrt xcnt xver b : Int) (w : World) (f0 : (xblk != b) = true) : Calls Try.prog 32 #[.agg #[.int .i64 xgen, .int .i64 xep, .int .i64 xblk, .int .i64 xlog, .int .i64 xst, .int .i64 xpl, .int .i64 xrt, .int .i64 xcnt, .int .i64 xver], .int .i64 b] w fun e w' => e = .returned (.bool false) ∧ Below w.heap.size w w' := by
  obtain ⟨Y, hY⟩ : ∃ Y, Y = w.alloc (.cells #[.int .i64 xgen, .int .i64 xep, .int .i64 xblk, .int .i64 xlog, .int .i64 xst, .int .i64 xpl, .int .i64 xrt, .int .i64 xcnt, .int .i64 xver] 34) := ⟨_, rfl⟩
  have BB : Hid (Below w.heap.size w Y) := Lib.hid (by rw [hY]; exact (Below.refl _ _).alloc (Nat.le_refl _) _)
  have GY : Y.heap[w.heap.size]? = some (.cells (Sup.mk xgen xep xblk xlog xst xpl xrt xcnt xver).arr 34 (0, 0)) := by rw [hY]; exact heap_alloc_new _ _
  obtain ⟨y0, y1, y2, y3, y4, y5, y6, y7, y8⟩ := sup_cells GY
  simp only at y0 y1 y2 y3 y4 y5 y6 y7 y8
  have hY' := hY.symm
  clear hY GY
  go_enter Try.func32, Try.ntmps32
  go_wp2_with (fail)
  go_ret
  exact ⟨rfl, BB.out⟩
set_option maxRecDepth 100000 in
set_option maxHeartbeats 4000000 in
theorem rv1 (xgen xep xblk xlog xst xpl xrt xcnt xver b : Int) (w : World) (f0 : (xblk != b) = false) (f1 : decide (b < 64) = true) : Calls Try.prog 32 #[.agg #[.int .i64 xgen, .int .i64 xep, .int .i64 xblk, .int .i64 xlog, .int .i64 xst, .int .i64 xpl, .int .i64 xrt, .int .i64 xcnt, .int .i64 xver], .int .i64 b] w fun e w' => e = .returned (.bool false) ∧ Below w.heap.size w w' := by
  obtain ⟨Y, hY⟩ : ∃ Y, Y = w.alloc (.cells #[.int .i64 xgen, .int .i64 xep, .int .i64 xblk, .int .i64 xlog, .int .i64 xst, .int .i64 xpl, .int .i64 xrt, .int .i64 xcnt, .int .i64 xver] 34) := ⟨_, rfl⟩
  have BB : Hid (Below w.heap.size w Y) := Lib.hid (by rw [hY]; exact (Below.refl _ _).alloc (Nat.le_refl _) _)
  have GY : Y.heap[w.heap.size]? = some (.cells (Sup.mk xgen xep xblk xlog xst xpl xrt xcnt xver).arr 34 (0, 0)) := by rw [hY]; exact heap_alloc_new _ _
  obtain ⟨y0, y1, y2, y3, y4, y5, y6, y7, y8⟩ := sup_cells GY
  simp only at y0 y1 y2 y3 y4 y5 y6 y7 y8
  have hY' := hY.symm
  clear hY GY
  go_enter Try.func32, Try.ntmps32
  go_wp2_with (fail)
  go_ret
  exact ⟨rfl, BB.out⟩
set_option maxRecDepth 100000 in
set_option maxHeartbeats 4000000 in
theorem rv2 (xgen xep xblk xlog xst xpl xrt xcnt xver b : Int) (w : World) (f0 : (xblk != b) = false) (f1 : decide (b < 64) = false) (f2 : decide (b > 4096) = true) : Calls Try.prog 32 #[.agg #[.int .i64 xgen, .int .i64 xep, .int .i64 xblk, .int .i64 xlog, .int .i64 xst, .int .i64 xpl, .int .i64 xrt, .int .i64 xcnt, .int .i64 xver], .int .i64 b] w fun e w' => e = .returned (.bool false) ∧ Below w.heap.size w w' := by
  obtain ⟨Y, hY⟩ : ∃ Y, Y = w.alloc (.cells #[.int .i64 xgen, .int .i64 xep, .int .i64 xblk, .int .i64 xlog, .int .i64 xst, .int .i64 xpl, .int .i64 xrt, .int .i64 xcnt, .int .i64 xver] 34) := ⟨_, rfl⟩
  have BB : Hid (Below w.heap.size w Y) := Lib.hid (by rw [hY]; exact (Below.refl _ _).alloc (Nat.le_refl _) _)
  have GY : Y.heap[w.heap.size]? = some (.cells (Sup.mk xgen xep xblk xlog xst xpl xrt xcnt xver).arr 34 (0, 0)) := by rw [hY]; exact heap_alloc_new _ _
  obtain ⟨y0, y1, y2, y3, y4, y5, y6, y7, y8⟩ := sup_cells GY
  simp only at y0 y1 y2 y3 y4 y5 y6 y7 y8
  have hY' := hY.symm
  clear hY GY
  go_enter Try.func32, Try.ntmps32
  go_wp2_with (fail)
  go_ret
  exact ⟨rfl, BB.out⟩
set_option maxRecDepth 100000 in
set_option maxHeartbeats 4000000 in
theorem rv3 (xgen xep xblk xlog xst xpl xrt xcnt xver b : Int) (w : World) (f0 : (xblk != b) = false) (f1 : decide (b < 64) = false) (f2 : decide (b > 4096) = false) (f3 : decide (xlog < 8) = true) : Calls Try.prog 32 #[.agg #[.int .i64 xgen, .int .i64 xep, .int .i64 xblk, .int .i64 xlog, .int .i64 xst, .int .i64 xpl, .int .i64 xrt, .int .i64 xcnt, .int .i64 xver], .int .i64 b] w fun e w' => e = .returned (.bool false) ∧ Below w.heap.size w w' := by
  obtain ⟨Y, hY⟩ : ∃ Y, Y = w.alloc (.cells #[.int .i64 xgen, .int .i64 xep, .int .i64 xblk, .int .i64 xlog, .int .i64 xst, .int .i64 xpl, .int .i64 xrt, .int .i64 xcnt, .int .i64 xver] 34) := ⟨_, rfl⟩
  have BB : Hid (Below w.heap.size w Y) := Lib.hid (by rw [hY]; exact (Below.refl _ _).alloc (Nat.le_refl _) _)
  have GY : Y.heap[w.heap.size]? = some (.cells (Sup.mk xgen xep xblk xlog xst xpl xrt xcnt xver).arr 34 (0, 0)) := by rw [hY]; exact heap_alloc_new _ _
  obtain ⟨y0, y1, y2, y3, y4, y5, y6, y7, y8⟩ := sup_cells GY
  simp only at y0 y1 y2 y3 y4 y5 y6 y7 y8
  have hY' := hY.symm
  clear hY GY
  go_enter Try.func32, Try.ntmps32
  go_wp2_with (fail)
  go_ret
  exact ⟨rfl, BB.out⟩
set_option maxRecDepth 100000 in
set_option maxHeartbeats 4000000 in
theorem rv4 (xgen xep xblk xlog xst xpl xrt xcnt xver b : Int) (w : World) (f0 : (xblk != b) = false) (f1 : decide (b < 64) = false) (f2 : decide (b > 4096) = false) (f3 : decide (xlog < 8) = false) (f4 : decide (xlog > 512) = true) : Calls Try.prog 32 #[.agg #[.int .i64 xgen, .int .i64 xep, .int .i64 xblk, .int .i64 xlog, .int .i64 xst, .int .i64 xpl, .int .i64 xrt, .int .i64 xcnt, .int .i64 xver], .int .i64 b] w fun e w' => e = .returned (.bool false) ∧ Below w.heap.size w w' := by
  obtain ⟨Y, hY⟩ : ∃ Y, Y = w.alloc (.cells #[.int .i64 xgen, .int .i64 xep, .int .i64 xblk, .int .i64 xlog, .int .i64 xst, .int .i64 xpl, .int .i64 xrt, .int .i64 xcnt, .int .i64 xver] 34) := ⟨_, rfl⟩
  have BB : Hid (Below w.heap.size w Y) := Lib.hid (by rw [hY]; exact (Below.refl _ _).alloc (Nat.le_refl _) _)
  have GY : Y.heap[w.heap.size]? = some (.cells (Sup.mk xgen xep xblk xlog xst xpl xrt xcnt xver).arr 34 (0, 0)) := by rw [hY]; exact heap_alloc_new _ _
  obtain ⟨y0, y1, y2, y3, y4, y5, y6, y7, y8⟩ := sup_cells GY
  simp only at y0 y1 y2 y3 y4 y5 y6 y7 y8
  have hY' := hY.symm
  clear hY GY
  go_enter Try.func32, Try.ntmps32
  go_wp2_with (fail)
  go_ret
  exact ⟨rfl, BB.out⟩
set_option maxRecDepth 100000 in
set_option maxHeartbeats 4000000 in
theorem rv5 (xgen xep xblk xlog xst xpl xrt xcnt xver b : Int) (w : World) (hb1 : 64 ≤ b) (hb2 : b ≤ 4096) (hl1 : 8 ≤ xlog) (hl2 : xlog ≤ 512) (f0 : (xblk != b) = false) (f1 : decide (b < 64) = false) (f2 : decide (b > 4096) = false) (f3 : decide (xlog < 8) = false) (f4 : decide (xlog > 512) = false) (f5 : decide (b - 2 - xlog < 40) = true) : Calls Try.prog 32 #[.agg #[.int .i64 xgen, .int .i64 xep, .int .i64 xblk, .int .i64 xlog, .int .i64 xst, .int .i64 xpl, .int .i64 xrt, .int .i64 xcnt, .int .i64 xver], .int .i64 b] w fun e w' => e = .returned (.bool false) ∧ Below w.heap.size w w' := by
  obtain ⟨Y, hY⟩ : ∃ Y, Y = w.alloc (.cells #[.int .i64 xgen, .int .i64 xep, .int .i64 xblk, .int .i64 xlog, .int .i64 xst, .int .i64 xpl, .int .i64 xrt, .int .i64 xcnt, .int .i64 xver] 34) := ⟨_, rfl⟩
  have BB : Hid (Below w.heap.size w Y) := Lib.hid (by rw [hY]; exact (Below.refl _ _).alloc (Nat.le_refl _) _)
  have GY : Y.heap[w.heap.size]? = some (.cells (Sup.mk xgen xep xblk xlog xst xpl xrt xcnt xver).arr 34 (0, 0)) := by rw [hY]; exact heap_alloc_new _ _
  obtain ⟨y0, y1, y2, y3, y4, y5, y6, y7, y8⟩ := sup_cells GY
  simp only at y0 y1 y2 y3 y4 y5 y6 y7 y8
  have hY' := hY.symm
  clear hY GY
  go_enter Try.func32, Try.ntmps32
  go_wp2_with (fail)
  go_ret
  exact ⟨rfl, BB.out⟩
set_option maxRecDepth 100000 in
set_option maxHeartbeats 4000000 in
theorem rv6 (xgen xep xblk xlog xst xpl xrt xcnt xver b : Int) (w : World) (hb1 : 64 ≤ b) (hb2 : b ≤ 4096) (hl1 : 8 ≤ xlog) (hl2 : xlog ≤ 512) (f0 : (xblk != b) = false) (f1 : decide (b < 64) = false) (f2 : decide (b > 4096) = false) (f3 : decide (xlog < 8) = false) (f4 : decide (xlog > 512) = false) (f5 : decide (b - 2 - xlog < 40) = false) (k6 : upB xgen 1 = false) : Calls Try.prog 32 #[.agg #[.int .i64 xgen, .int .i64 xep, .int .i64 xblk, .int .i64 xlog, .int .i64 xst, .int .i64 xpl, .int .i64 xrt, .int .i64 xcnt, .int .i64 xver], .int .i64 b] w fun e w' => e = .returned (.bool false) ∧ Below w.heap.size w w' := by
  obtain ⟨Y, hY⟩ : ∃ Y, Y = w.alloc (.cells #[.int .i64 xgen, .int .i64 xep, .int .i64 xblk, .int .i64 xlog, .int .i64 xst, .int .i64 xpl, .int .i64 xrt, .int .i64 xcnt, .int .i64 xver] 34) := ⟨_, rfl⟩
  have BB : Hid (Below w.heap.size w Y) := Lib.hid (by rw [hY]; exact (Below.refl _ _).alloc (Nat.le_refl _) _)
  have GY : Y.heap[w.heap.size]? = some (.cells (Sup.mk xgen xep xblk xlog xst xpl xrt xcnt xver).arr 34 (0, 0)) := by rw [hY]; exact heap_alloc_new _ _
  obtain ⟨y0, y1, y2, y3, y4, y5, y6, y7, y8⟩ := sup_cells GY
  simp only at y0 y1 y2 y3 y4 y5 y6 y7 y8
  have hY' := hY.symm
  have S6 : Hid (∀ W, Calls Try.prog 53 #[.int .i64 xgen, .int .i64 1] W fun e w' => e = .returned (.bool false) ∧ w' = W) := Lib.hid (fun W => by have := upTo_any xgen 1 W; rw [k6] at this; exact this)
  have M6 : True := trivial
  clear hY GY k6
  go_enter Try.func32, Try.ntmps32
  go_wp2_with (first | (go_at_call 53; clear M6; refine (S6.out _).mono ?_; rintro e w1 ⟨rfl, rfl⟩))
  go_ret
  exact ⟨rfl, BB.out⟩
set_option maxRecDepth 100000 in
set_option maxHeartbeats 4000000 in
theorem rv7 (xgen xep xblk xlog xst xpl xrt xcnt xver b : Int) (w : World) (hb1 : 64 ≤ b) (hb2 : b ≤ 4096) (hl1 : 8 ≤ xlog) (hl2 : xlog ≤ 512) (f0 : (xblk != b) = false) (f1 : decide (b < 64) = false) (f2 : decide (b > 4096) = false) (f3 : decide (xlog < 8) = false) (f4 : decide (xlog > 512) = false) (f5 : decide (b - 2 - xlog < 40) = false) (k6 : upB xgen 1 = true) (k7 : upB xep 1 = false) : Calls Try.prog 32 #[.agg #[.int .i64 xgen, .int .i64 xep, .int .i64 xblk, .int .i64 xlog, .int .i64 xst, .int .i64 xpl, .int .i64 xrt, .int .i64 xcnt, .int .i64 xver], .int .i64 b] w fun e w' => e = .returned (.bool false) ∧ Below w.heap.size w w' := by
  obtain ⟨Y, hY⟩ : ∃ Y, Y = w.alloc (.cells #[.int .i64 xgen, .int .i64 xep, .int .i64 xblk, .int .i64 xlog, .int .i64 xst, .int .i64 xpl, .int .i64 xrt, .int .i64 xcnt, .int .i64 xver] 34) := ⟨_, rfl⟩
  have BB : Hid (Below w.heap.size w Y) := Lib.hid (by rw [hY]; exact (Below.refl _ _).alloc (Nat.le_refl _) _)
  have GY : Y.heap[w.heap.size]? = some (.cells (Sup.mk xgen xep xblk xlog xst xpl xrt xcnt xver).arr 34 (0, 0)) := by rw [hY]; exact heap_alloc_new _ _
  obtain ⟨y0, y1, y2, y3, y4, y5, y6, y7, y8⟩ := sup_cells GY
  simp only at y0 y1 y2 y3 y4 y5 y6 y7 y8
  have hY' := hY.symm
  have S6 : Hid (∀ W, Calls Try.prog 53 #[.int .i64 xgen, .int .i64 1] W fun e w' => e = .returned (.bool true) ∧ w' = W) := Lib.hid (fun W => by have := upTo_any xgen 1 W; rw [k6] at this; exact this)
  have M6 : True := trivial
  have S7 : Hid (∀ W, Calls Try.prog 53 #[.int .i64 xep, .int .i64 1] W fun e w' => e = .returned (.bool false) ∧ w' = W) := Lib.hid (fun W => by have := upTo_any xep 1 W; rw [k7] at this; exact this)
  have M7 : True := trivial
  clear hY GY k6 k7
  go_enter Try.func32, Try.ntmps32
  go_wp2_with (first | (go_at_call 53; clear M6; refine (S6.out _).mono ?_; rintro e w1 ⟨rfl, rfl⟩) | (go_at_call 53; clear M7; refine (S7.out _).mono ?_; rintro e w1 ⟨rfl, rfl⟩))
  go_ret
  exact ⟨rfl, BB.out⟩
set_option maxRecDepth 100000 in
set_option maxHeartbeats 4000000 in
theorem rv8 (xgen xep xblk xlog xst xpl xrt xcnt xver b : Int) (w : World) (hb1 : 64 ≤ b) (hb2 : b ≤ 4096) (hl1 : 8 ≤ xlog) (hl2 : xlog ≤ 512) (f0 : (xblk != b) = false) (f1 : decide (b < 64) = false) (f2 : decide (b > 4096) = false) (f3 : decide (xlog < 8) = false) (f4 : decide (xlog > 512) = false) (f5 : decide (b - 2 - xlog < 40) = false) (k6 : upB xgen 1 = true) (k7 : upB xep 1 = true) (k8 : upB xst 1 = false) : Calls Try.prog 32 #[.agg #[.int .i64 xgen, .int .i64 xep, .int .i64 xblk, .int .i64 xlog, .int .i64 xst, .int .i64 xpl, .int .i64 xrt, .int .i64 xcnt, .int .i64 xver], .int .i64 b] w fun e w' => e = .returned (.bool false) ∧ Below w.heap.size w w' := by
  obtain ⟨Y, hY⟩ : ∃ Y, Y = w.alloc (.cells #[.int .i64 xgen, .int .i64 xep, .int .i64 xblk, .int .i64 xlog, .int .i64 xst, .int .i64 xpl, .int .i64 xrt, .int .i64 xcnt, .int .i64 xver] 34) := ⟨_, rfl⟩
  have BB : Hid (Below w.heap.size w Y) := Lib.hid (by rw [hY]; exact (Below.refl _ _).alloc (Nat.le_refl _) _)
  have GY : Y.heap[w.heap.size]? = some (.cells (Sup.mk xgen xep xblk xlog xst xpl xrt xcnt xver).arr 34 (0, 0)) := by rw [hY]; exact heap_alloc_new _ _
  obtain ⟨y0, y1, y2, y3, y4, y5, y6, y7, y8⟩ := sup_cells GY
  simp only at y0 y1 y2 y3 y4 y5 y6 y7 y8
  have hY' := hY.symm
  have S6 : Hid (∀ W, Calls Try.prog 53 #[.int .i64 xgen, .int .i64 1] W fun e w' => e = .returned (.bool true) ∧ w' = W) := Lib.hid (fun W => by have := upTo_any xgen 1 W; rw [k6] at this; exact this)
  have M6 : True := trivial
  have S7 : Hid (∀ W, Calls Try.prog 53 #[.int .i64 xep, .int .i64 1] W fun e w' => e = .returned (.bool true) ∧ w' = W) := Lib.hid (fun W => by have := upTo_any xep 1 W; rw [k7] at this; exact this)
  have M7 : True := trivial
  have S8 : Hid (∀ W, Calls Try.prog 53 #[.int .i64 xst, .int .i64 1] W fun e w' => e = .returned (.bool false) ∧ w' = W) := Lib.hid (fun W => by have := upTo_any xst 1 W; rw [k8] at this; exact this)
  have M8 : True := trivial
  clear hY GY k6 k7 k8
  go_enter Try.func32, Try.ntmps32
  go_wp2_with (first | (go_at_call 53; clear M6; refine (S6.out _).mono ?_; rintro e w1 ⟨rfl, rfl⟩) | (go_at_call 53; clear M7; refine (S7.out _).mono ?_; rintro e w1 ⟨rfl, rfl⟩) | (go_at_call 53; clear M8; refine (S8.out _).mono ?_; rintro e w1 ⟨rfl, rfl⟩))
  go_ret
  exact ⟨rfl, BB.out⟩
set_option maxRecDepth 100000 in
set_option maxHeartbeats 4000000 in
theorem rv9 (xgen xep xblk xlog xst xpl xrt xcnt xver b : Int) (w : World) (hb1 : 64 ≤ b) (hb2 : b ≤ 4096) (hl1 : 8 ≤ xlog) (hl2 : xlog ≤ 512) (f0 : (xblk != b) = false) (f1 : decide (b < 64) = false) (f2 : decide (b > 4096) = false) (f3 : decide (xlog < 8) = false) (f4 : decide (xlog > 512) = false) (f5 : decide (b - 2 - xlog < 40) = false) (k6 : upB xgen 1 = true) (k7 : upB xep 1 = true) (k8 : upB xst 1 = true) (k9 : upB xver 0 = false) : Calls Try.prog 32 #[.agg #[.int .i64 xgen, .int .i64 xep, .int .i64 xblk, .int .i64 xlog, .int .i64 xst, .int .i64 xpl, .int .i64 xrt, .int .i64 xcnt, .int .i64 xver], .int .i64 b] w fun e w' => e = .returned (.bool false) ∧ Below w.heap.size w w' := by
  obtain ⟨Y, hY⟩ : ∃ Y, Y = w.alloc (.cells #[.int .i64 xgen, .int .i64 xep, .int .i64 xblk, .int .i64 xlog, .int .i64 xst, .int .i64 xpl, .int .i64 xrt, .int .i64 xcnt, .int .i64 xver] 34) := ⟨_, rfl⟩
  have BB : Hid (Below w.heap.size w Y) := Lib.hid (by rw [hY]; exact (Below.refl _ _).alloc (Nat.le_refl _) _)
  have GY : Y.heap[w.heap.size]? = some (.cells (Sup.mk xgen xep xblk xlog xst xpl xrt xcnt xver).arr 34 (0, 0)) := by rw [hY]; exact heap_alloc_new _ _
  obtain ⟨y0, y1, y2, y3, y4, y5, y6, y7, y8⟩ := sup_cells GY
  simp only at y0 y1 y2 y3 y4 y5 y6 y7 y8
  have hY' := hY.symm
  have S6 : Hid (∀ W, Calls Try.prog 53 #[.int .i64 xgen, .int .i64 1] W fun e w' => e = .returned (.bool true) ∧ w' = W) := Lib.hid (fun W => by have := upTo_any xgen 1 W; rw [k6] at this; exact this)
  have M6 : True := trivial
  have S7 : Hid (∀ W, Calls Try.prog 53 #[.int .i64 xep, .int .i64 1] W fun e w' => e = .returned (.bool true) ∧ w' = W) := Lib.hid (fun W => by have := upTo_any xep 1 W; rw [k7] at this; exact this)
  have M7 : True := trivial
  have S8 : Hid (∀ W, Calls Try.prog 53 #[.int .i64 xst, .int .i64 1] W fun e w' => e = .returned (.bool true) ∧ w' = W) := Lib.hid (fun W => by have := upTo_any xst 1 W; rw [k8] at this; exact this)
  have M8 : True := trivial
  have S9 : Hid (∀ W, Calls Try.prog 53 #[.int .i64 xver, .int .i64 0] W fun e w' => e = .returned (.bool false) ∧ w' = W) := Lib.hid (fun W => by have := upTo_any xver 0 W; rw [k9] at this; exact this)
  have M9 : True := trivial
  clear hY GY k6 k7 k8 k9
  go_enter Try.func32, Try.ntmps32
  go_wp2_with (first | (go_at_call 53; clear M6; refine (S6.out _).mono ?_; rintro e w1 ⟨rfl, rfl⟩) | (go_at_call 53; clear M7; refine (S7.out _).mono ?_; rintro e w1 ⟨rfl, rfl⟩) | (go_at_call 53; clear M8; refine (S8.out _).mono ?_; rintro e w1 ⟨rfl, rfl⟩) | (go_at_call 53; clear M9; refine (S9.out _).mono ?_; rintro e w1 ⟨rfl, rfl⟩))
  go_ret
  exact ⟨rfl, BB.out⟩
set_option maxRecDepth 100000 in
set_option maxHeartbeats 4000000 in
theorem rv10 (xgen xep xblk xlog xst xpl xrt xcnt xver m b : Int) (w : World) (hb1 : 64 ≤ b) (hb2 : b ≤ 4096) (hl1 : 8 ≤ xlog) (hl2 : xlog ≤ 512) (hs1 : 1 ≤ xst) (hs2 : xst ≤ 1152921500311879680) (hm : (xst - 1).tmod xlog = m) (f0 : (xblk != b) = false) (f1 : decide (b < 64) = false) (f2 : decide (b > 4096) = false) (f3 : decide (xlog < 8) = false) (f4 : decide (xlog > 512) = false) (f5 : decide (b - 2 - xlog < 40) = false) (f10 : (xpl != m) = true) (k6 : upB xgen 1 = true) (k7 : upB xep 1 = true) (k8 : upB xst 1 = true) (k9 : upB xver 0 = true) : Calls Try.prog 32 #[.agg #[.int .i64 xgen, .int .i64 xep, .int .i64 xblk, .int .i64 xlog, .int .i64 xst, .int .i64 xpl, .int .i64 xrt, .int .i64 xcnt, .int .i64 xver], .int .i64 b] w fun e w' => e = .returned (.bool false) ∧ Below w.heap.size w w' := by
  obtain ⟨Y, hY⟩ : ∃ Y, Y = w.alloc (.cells #[.int .i64 xgen, .int .i64 xep, .int .i64 xblk, .int .i64 xlog, .int .i64 xst, .int .i64 xpl, .int .i64 xrt, .int .i64 xcnt, .int .i64 xver] 34) := ⟨_, rfl⟩
  have BB : Hid (Below w.heap.size w Y) := Lib.hid (by rw [hY]; exact (Below.refl _ _).alloc (Nat.le_refl _) _)
  have GY : Y.heap[w.heap.size]? = some (.cells (Sup.mk xgen xep xblk xlog xst xpl xrt xcnt xver).arr 34 (0, 0)) := by rw [hY]; exact heap_alloc_new _ _
  obtain ⟨y0, y1, y2, y3, y4, y5, y6, y7, y8⟩ := sup_cells GY
  simp only at y0 y1 y2 y3 y4 y5 y6 y7 y8
  have hY' := hY.symm
  have S6 : Hid (∀ W, Calls Try.prog 53 #[.int .i64 xgen, .int .i64 1] W fun e w' => e = .returned (.bool true) ∧ w' = W) := Lib.hid (fun W => by have := upTo_any xgen 1 W; rw [k6] at this; exact this)
  have M6 : True := trivial
  have S7 : Hid (∀ W, Calls Try.prog 53 #[.int .i64 xep, .int .i64 1] W fun e w' => e = .returned (.bool true) ∧ w' = W) := Lib.hid (fun W => by have := upTo_any xep 1 W; rw [k7] at this; exact this)
  have M7 : True := trivial
  have S8 : Hid (∀ W, Calls Try.prog 53 #[.int .i64 xst, .int .i64 1] W fun e w' => e = .returned (.bool true) ∧ w' = W) := Lib.hid (fun W => by have := upTo_any xst 1 W; rw [k8] at this; exact this)
  have M8 : True := trivial
  have S9 : Hid (∀ W, Calls Try.prog 53 #[.int .i64 xver, .int .i64 0] W fun e w' => e = .returned (.bool true) ∧ w' = W) := Lib.hid (fun W => by have := upTo_any xver 0 W; rw [k9] at this; exact this)
  have M9 : True := trivial
  clear hY GY k6 k7 k8 k9
  have hn0 : ¬ xlog = 0 := by omega
  go_enter Try.func32, Try.ntmps32
  go_wp2_with (first | (go_at_call 53; clear M6; refine (S6.out _).mono ?_; rintro e w1 ⟨rfl, rfl⟩) | (go_at_call 53; clear M7; refine (S7.out _).mono ?_; rintro e w1 ⟨rfl, rfl⟩) | (go_at_call 53; clear M8; refine (S8.out _).mono ?_; rintro e w1 ⟨rfl, rfl⟩) | (go_at_call 53; clear M9; refine (S9.out _).mono ?_; rintro e w1 ⟨rfl, rfl⟩))
  go_quiet (fail)
  have BN := Lib.hid (BB.out.trans ((below_drawn _ nq).mono BB.out.size))
  go_wp2_with (fail)
  go_ret
  exact ⟨rfl, BN.out⟩
set_option maxRecDepth 100000 in
set_option maxHeartbeats 4000000 in
theorem rv11 (xgen xep xblk xlog xst xpl xrt xcnt xver m b : Int) (w : World) (hb1 : 64 ≤ b) (hb2 : b ≤ 4096) (hl1 : 8 ≤ xlog) (hl2 : xlog ≤ 512) (hs1 : 1 ≤ xst) (hs2 : xst ≤ 1152921500311879680) (hm : (xst - 1).tmod xlog = m) (f0 : (xblk != b) = false) (f1 : decide (b < 64) = false) (f2 : decide (b > 4096) = false) (f3 : decide (xlog < 8) = false) (f4 : decide (xlog > 512) = false) (f5 : decide (b - 2 - xlog < 40) = false) (f10 : (xpl != m) = false) (k6 : upB xgen 1 = true) (k7 : upB xep 1 = true) (k8 : upB xst 1 = true) (k9 : upB xver 0 = true) (c : Bool) (g0 : (xrt == 0) = true) (g1 : (xcnt == 0) = c) : Calls Try.prog 32 #[.agg #[.int .i64 xgen, .int .i64 xep, .int .i64 xblk, .int .i64 xlog, .int .i64 xst, .int .i64 xpl, .int .i64 xrt, .int .i64 xcnt, .int .i64 xver], .int .i64 b] w fun e w' => e = .returned (.bool c) ∧ Below w.heap.size w w' := by
  obtain ⟨Y, hY⟩ : ∃ Y, Y = w.alloc (.cells #[.int .i64 xgen, .int .i64 xep, .int .i64 xblk, .int .i64 xlog, .int .i64 xst, .int .i64 xpl, .int .i64 xrt, .int .i64 xcnt, .int .i64 xver] 34) := ⟨_, rfl⟩
  have BB : Hid (Below w.heap.size w Y) := Lib.hid (by rw [hY]; exact (Below.refl _ _).alloc (Nat.le_refl _) _)
  have GY : Y.heap[w.heap.size]? = some (.cells (Sup.mk xgen xep xblk xlog xst xpl xrt xcnt xver).arr 34 (0, 0)) := by rw [hY]; exact heap_alloc_new _ _
  obtain ⟨y0, y1, y2, y3, y4, y5, y6, y7, y8⟩ := sup_cells GY
  simp only at y0 y1 y2 y3 y4 y5 y6 y7 y8
  have hY' := hY.symm
  have S6 : Hid (∀ W, Calls Try.prog 53 #[.int .i64 xgen, .int .i64 1] W fun e w' => e = .returned (.bool true) ∧ w' = W) := Lib.hid (fun W => by have := upTo_any xgen 1 W; rw [k6] at this; exact this)
  have M6 : True := trivial
  have S7 : Hid (∀ W, Calls Try.prog 53 #[.int .i64 xep, .int .i64 1] W fun e w' => e = .returned (.bool true) ∧ w' = W) := Lib.hid (fun W => by have := upTo_any xep 1 W; rw [k7] at this; exact this)
  have M7 : True := trivial
  have S8 : Hid (∀ W, Calls Try.prog 53 #[.int .i64 xst, .int .i64 1] W fun e w' => e = .returned (.bool true) ∧ w' = W) := Lib.hid (fun W => by have := upTo_any xst 1 W; rw [k8] at this; exact this)
  have M8 : True := trivial
  have S9 : Hid (∀ W, Calls Try.prog 53 #[.int .i64 xver, .int .i64 0] W fun e w' => e = .returned (.bool true) ∧ w' = W) := Lib.hid (fun W => by have := upTo_any xver 0 W; rw [k9] at this; exact this)
  have M9 : True := trivial
  clear hY GY k6 k7 k8 k9
  have hn0 : ¬ xlog = 0 := by omega
  go_enter Try.func32, Try.ntmps32
  go_wp2_with (first | (go_at_call 53; clear M6; refine (S6.out _).mono ?_; rintro e w1 ⟨rfl, rfl⟩) | (go_at_call 53; clear M7; refine (S7.out _).mono ?_; rintro e w1 ⟨rfl, rfl⟩) | (go_at_call 53; clear M8; refine (S8.out _).mono ?_; rintro e w1 ⟨rfl, rfl⟩) | (go_at_call 53; clear M9; refine (S9.out _).mono ?_; rintro e w1 ⟨rfl, rfl⟩))
  go_quiet (fail)
  have BN := Lib.hid (BB.out.trans ((below_drawn _ nq).mono BB.out.size))
  go_wp2_with (fail)
  go_ret
  exact ⟨rfl, BN.out⟩
set_option maxRecDepth 100000 in
set_option maxHeartbeats 4000000 in
theorem rv12 (xgen xep xblk xlog xst xpl xrt xcnt xver m b : Int) (w : World) (hb1 : 64 ≤ b) (hb2 : b ≤ 4096) (hl1 : 8 ≤ xlog) (hl2 : xlog ≤ 512) (hs1 : 1 ≤ xst) (hs2 : xst ≤ 1152921500311879680) (hm : (xst - 1).tmod xlog = m) (f0 : (xblk != b) = false) (f1 : decide (b < 64) = false) (f2 : decide (b > 4096) = false) (f3 : decide (xlog < 8) = false) (f4 : decide (xlog > 512) = false) (f5 : decide (b - 2 - xlog < 40) = false) (f10 : (xpl != m) = false) (k6 : upB xgen 1 = true) (k7 : upB xep 1 = true) (k8 : upB xst 1 = true) (k9 : upB xver 0 = true) (g0 : (xrt == 0) = false) (g1 : decide (xrt ≥ 2 + xlog) = false) : Calls Try.prog 32 #[.agg #[.int .i64 xgen, .int .i64 xep, .int .i64 xblk, .int .i64 xlog, .int .i64 xst, .int .i64 xpl, .int .i64 xrt, .int .i64 xcnt, .int .i64 xver], .int .i64 b] w fun e w' => e = .returned (.bool false) ∧ Below w.heap.size w w' := by
  obtain ⟨Y, hY⟩ : ∃ Y, Y = w.alloc (.cells #[.int .i64 xgen, .int .i64 xep, .int .i64 xblk, .int .i64 xlog, .int .i64 xst, .int .i64 xpl, .int .i64 xrt, .int .i64 xcnt, .int .i64 xver] 34) := ⟨_, rfl⟩
  have BB : Hid (Below w.heap.size w Y) := Lib.hid (by rw [hY]; exact (Below.refl _ _).alloc (Nat.le_refl _) _)
  have GY : Y.heap[w.heap.size]? = some (.cells (Sup.mk xgen xep xblk xlog xst xpl xrt xcnt xver).arr 34 (0, 0)) := by rw [hY]; exact heap_alloc_new _ _
  obtain ⟨y0, y1, y2, y3, y4, y5, y6, y7, y8⟩ := sup_cells GY
  simp only at y0 y1 y2 y3 y4 y5 y6 y7 y8
  have hY' := hY.symm
  have S6 : Hid (∀ W, Calls Try.prog 53 #[.int .i64 xgen, .int .i64 1] W fun e w' => e = .returned (.bool true) ∧ w' = W) := Lib.hid (fun W => by have := upTo_any xgen 1 W; rw [k6] at this; exact this)
  have M6 : True := trivial
  have S7 : Hid (∀ W, Calls Try.prog 53 #[.int .i64 xep, .int .i64 1] W fun e w' => e = .returned (.bool true) ∧ w' = W) := Lib.hid (fun W => by have := upTo_any xep 1 W; rw [k7] at this; exact this)
  have M7 : True := trivial
  have S8 : Hid (∀ W, Calls Try.prog 53 #[.int .i64 xst, .int .i64 1] W fun e w' => e = .returned (.bool true) ∧ w' = W) := Lib.hid (fun W => by have := upTo_any xst 1 W; rw [k8] at this; exact this)
  have M8 : True := trivial
  have S9 : Hid (∀ W, Calls Try.prog 53 #[.int .i64 xver, .int .i64 0] W fun e w' => e = .returned (.bool true) ∧ w' = W) := Lib.hid (fun W => by have := upTo_any xver 0 W; rw [k9] at this; exact this)
  have M9 : True := trivial
  clear hY GY k6 k7 k8 k9
  have hn0 : ¬ xlog = 0 := by omega
  go_enter Try.func32, Try.ntmps32
  go_wp2_with (first | (go_at_call 53; clear M6; refine (S6.out _).mono ?_; rintro e w1 ⟨rfl, rfl⟩) | (go_at_call 53; clear M7; refine (S7.out _).mono ?_; rintro e w1 ⟨rfl, rfl⟩) | (go_at_call 53; clear M8; refine (S8.out _).mono ?_; rintro e w1 ⟨rfl, rfl⟩) | (go_at_call 53; clear M9; refine (S9.out _).mono ?_; rintro e w1 ⟨rfl, rfl⟩))
  go_quiet (fail)
  have BN := Lib.hid (BB.out.trans ((below_drawn _ nq).mono BB.out.size))
  go_wp2_with (fail)
  go_ret
  exact ⟨rfl, BN.out⟩
set_option maxRecDepth 100000 in
set_option maxHeartbeats 4000000 in
theorem rv13 (xgen xep xblk xlog xst xpl xrt xcnt xver m b : Int) (w : World) (hb1 : 64 ≤ b) (hb2 : b ≤ 4096) (hl1 : 8 ≤ xlog) (hl2 : xlog ≤ 512) (hs1 : 1 ≤ xst) (hs2 : xst ≤ 1152921500311879680) (hm : (xst - 1).tmod xlog = m) (f0 : (xblk != b) = false) (f1 : decide (b < 64) = false) (f2 : decide (b > 4096) = false) (f3 : decide (xlog < 8) = false) (f4 : decide (xlog > 512) = false) (f5 : decide (b - 2 - xlog < 40) = false) (f10 : (xpl != m) = false) (k6 : upB xgen 1 = true) (k7 : upB xep 1 = true) (k8 : upB xst 1 = true) (k9 : upB xver 0 = true) (g0 : (xrt == 0) = false) (g1 : decide (xrt ≥ 2 + xlog) = true) (g2 : decide (xrt < b) = false) : Calls Try.prog 32 #[.agg #[.int .i64 xgen, .int .i64 xep, .int .i64 xblk, .int .i64 xlog, .int .i64 xst, .int .i64 xpl, .int .i64 xrt, .int .i64 xcnt, .int .i64 xver], .int .i64 b] w fun e w' => e = .returned (.bool false) ∧ Below w.heap.size w w' := by
  obtain ⟨Y, hY⟩ : ∃ Y, Y = w.alloc (.cells #[.int .i64 xgen, .int .i64 xep, .int .i64 xblk, .int .i64 xlog, .int .i64 xst, .int .i64 xpl, .int .i64 xrt, .int .i64 xcnt, .int .i64 xver] 34) := ⟨_, rfl⟩
  have BB : Hid (Below w.heap.size w Y) := Lib.hid (by rw [hY]; exact (Below.refl _ _).alloc (Nat.le_refl _) _)
  have GY : Y.heap[w.heap.size]? = some (.cells (Sup.mk xgen xep xblk xlog xst xpl xrt xcnt xver).arr 34 (0, 0)) := by rw [hY]; exact heap_alloc_new _ _
  obtain ⟨y0, y1, y2, y3, y4, y5, y6, y7, y8⟩ := sup_cells GY
  simp only at y0 y1 y2 y3 y4 y5 y6 y7 y8
  have hY' := hY.symm
  have S6 : Hid (∀ W, Calls Try.prog 53 #[.int .i64 xgen, .int .i64 1] W fun e w' => e = .returned (.bool true) ∧ w' = W) := Lib.hid (fun W => by have := upTo_any xgen 1 W; rw [k6] at this; exact this)
  have M6 : True := trivial
  have S7 : Hid (∀ W, Calls Try.prog 53 #[.int .i64 xep, .int .i64 1] W fun e w' => e = .returned (.bool true) ∧ w' = W) := Lib.hid (fun W => by have := upTo_any xep 1 W; rw [k7] at this; exact this)
  have M7 : True := trivial
  have S8 : Hid (∀ W, Calls Try.prog 53 #[.int .i64 xst, .int .i64 1] W fun e w' => e = .returned (.bool true) ∧ w' = W) := Lib.hid (fun W => by have := upTo_any xst 1 W; rw [k8] at this; exact this)
  have M8 : True := trivial
  have S9 : Hid (∀ W, Calls Try.prog 53 #[.int .i64 xver, .int .i64 0] W fun e w' => e = .returned (.bool true) ∧ w' = W) := Lib.hid (fun W => by have := upTo_any xver 0 W; rw [k9] at this; exact this)
  have M9 : True := trivial
  clear hY GY k6 k7 k8 k9
  have hn0 : ¬ xlog = 0 := by omega
  go_enter Try.func32, Try.ntmps32
  go_wp2_with (first | (go_at_call 53; clear M6; refine (S6.out _).mono ?_; rintro e w1 ⟨rfl, rfl⟩) | (go_at_call 53; clear M7; refine (S7.out _).mono ?_; rintro e w1 ⟨rfl, rfl⟩) | (go_at_call 53; clear M8; refine (S8.out _).mono ?_; rintro e w1 ⟨rfl, rfl⟩) | (go_at_call 53; clear M9; refine (S9.out _).mono ?_; rintro e w1 ⟨rfl, rfl⟩))
  go_quiet (fail)
  have BN := Lib.hid (BB.out.trans ((below_drawn _ nq).mono BB.out.size))
  go_wp2_with (fail)
  go_ret
  exact ⟨rfl, BN.out⟩
set_option maxRecDepth 100000 in
set_option maxHeartbeats 4000000 in
theorem rv14 (xgen xep xblk xlog xst xpl xrt xcnt xver m b : Int) (w : World) (hb1 : 64 ≤ b) (hb2 : b ≤ 4096) (hl1 : 8 ≤ xlog) (hl2 : xlog ≤ 512) (hs1 : 1 ≤ xst) (hs2 : xst ≤ 1152921500311879680) (hm : (xst - 1).tmod xlog = m) (f0 : (xblk != b) = false) (f1 : decide (b < 64) = false) (f2 : decide (b > 4096) = false) (f3 : decide (xlog < 8) = false) (f4 : decide (xlog > 512) = false) (f5 : decide (b - 2 - xlog < 40) = false) (f10 : (xpl != m) = false) (k6 : upB xgen 1 = true) (k7 : upB xep 1 = true) (k8 : upB xst 1 = true) (k9 : upB xver 0 = true) (c : Bool) (g0 : (xrt == 0) = false) (g1 : decide (xrt ≥ 2 + xlog) = true) (g2 : decide (xrt < b) = true) (kc : upB xcnt 1 = c) : Calls Try.prog 32 #[.agg #[.int .i64 xgen, .int .i64 xep, .int .i64 xblk, .int .i64 xlog, .int .i64 xst, .int .i64 xpl, .int .i64 xrt, .int .i64 xcnt, .int .i64 xver], .int .i64 b] w fun e w' => e = .returned (.bool c) ∧ Below w.heap.size w w' := by
  obtain ⟨Y, hY⟩ : ∃ Y, Y = w.alloc (.cells #[.int .i64 xgen, .int .i64 xep, .int .i64 xblk, .int .i64 xlog, .int .i64 xst, .int .i64 xpl, .int .i64 xrt, .int .i64 xcnt, .int .i64 xver] 34) := ⟨_, rfl⟩
  have BB : Hid (Below w.heap.size w Y) := Lib.hid (by rw [hY]; exact (Below.refl _ _).alloc (Nat.le_refl _) _)
  have GY : Y.heap[w.heap.size]? = some (.cells (Sup.mk xgen xep xblk xlog xst xpl xrt xcnt xver).arr 34 (0, 0)) := by rw [hY]; exact heap_alloc_new _ _
  obtain ⟨y0, y1, y2, y3, y4, y5, y6, y7, y8⟩ := sup_cells GY
  simp only at y0 y1 y2 y3 y4 y5 y6 y7 y8
  have hY' := hY.symm
  have S6 : Hid (∀ W, Calls Try.prog 53 #[.int .i64 xgen, .int .i64 1] W fun e w' => e = .returned (.bool true) ∧ w' = W) := Lib.hid (fun W => by have := upTo_any xgen 1 W; rw [k6] at this; exact this)
  have M6 : True := trivial
  have S7 : Hid (∀ W, Calls Try.prog 53 #[.int .i64 xep, .int .i64 1] W fun e w' => e = .returned (.bool true) ∧ w' = W) := Lib.hid (fun W => by have := upTo_any xep 1 W; rw [k7] at this; exact this)
  have M7 : True := trivial
  have S8 : Hid (∀ W, Calls Try.prog 53 #[.int .i64 xst, .int .i64 1] W fun e w' => e = .returned (.bool true) ∧ w' = W) := Lib.hid (fun W => by have := upTo_any xst 1 W; rw [k8] at this; exact this)
  have M8 : True := trivial
  have S9 : Hid (∀ W, Calls Try.prog 53 #[.int .i64 xver, .int .i64 0] W fun e w' => e = .returned (.bool true) ∧ w' = W) := Lib.hid (fun W => by have := upTo_any xver 0 W; rw [k9] at this; exact this)
  have M9 : True := trivial
  have SC : Hid (∀ W, Calls Try.prog 53 #[.int .i64 xcnt, .int .i64 1] W fun e w' => e = .returned (.bool c) ∧ w' = W) := Lib.hid (fun W => by have := upTo_any xcnt 1 W; rw [kc] at this; exact this)
  have MC : True := trivial
  clear hY GY k6 k7 k8 k9 kc
  have hn0 : ¬ xlog = 0 := by omega
  go_enter Try.func32, Try.ntmps32
  go_wp2_with (first | (go_at_call 53; clear M6; refine (S6.out _).mono ?_; rintro e w1 ⟨rfl, rfl⟩) | (go_at_call 53; clear M7; refine (S7.out _).mono ?_; rintro e w1 ⟨rfl, rfl⟩) | (go_at_call 53; clear M8; refine (S8.out _).mono ?_; rintro e w1 ⟨rfl, rfl⟩) | (go_at_call 53; clear M9; refine (S9.out _).mono ?_; rintro e w1 ⟨rfl, rfl⟩))
  go_quiet (fail)
  have BN := Lib.hid (BB.out.trans ((below_drawn _ nq).mono BB.out.size))
  go_wp2_with (first | (go_at_call 53; clear MC; refine (SC.out _).mono ?_; rintro e w1 ⟨rfl, rfl⟩))
  go_ret
  exact ⟨rfl, BN.out⟩
theorem rvalid_any (s : Sup) (b : Int) (w : World) : Calls Try.prog 32 #[.agg s.arr, .int .i64 b] w fun e w' => e = .returned (.bool (vaB s b)) ∧ Below w.heap.size w w' := by
  obtain ⟨xgen, xep, xblk, xlog, xst, xpl, xrt, xcnt, xver⟩ := s
  have NO : ∀ (p : Prop), (((Sup.mk xgen xep xblk xlog xst xpl xrt xcnt xver).blk = b ∧ Vd (Sup.mk xgen xep xblk xlog xst xpl xrt xcnt xver)) → p) → ¬ p → vaB (Sup.mk xgen xep xblk xlog xst xpl xrt xcnt xver) b = false := fun p h hp => Bool.eq_false_iff.2 (fun q => hp (h ((va_iff _ _).1 q)))
  show Calls Try.prog 32 #[.agg #[.int .i64 xgen, .int .i64 xep, .int .i64 xblk, .int .i64 xlog, .int .i64 xst, .int .i64 xpl, .int .i64 xrt, .int .i64 xcnt, .int .i64 xver], .int .i64 b] w _
  by_cases h0 : xblk = b
  case neg =>
    rw [NO _ (fun q => q.1) h0]
    exact rv0 _ _ _ _ _ _ _ _ _ b w (by rw [bne_iff_ne]; exact h0)
  have f0 : (xblk != b) = false := by rw [bne_eq_false_iff_eq]; exact h0
  by_cases h1 : 64 ≤ b
  case neg =>
    rw [NO _ (fun q => by have := q.2.b1; have e := q.1; simp only at this e; omega) h1]
    exact rv1 _ _ _ _ _ _ _ _ _ b w f0 (decide_eq_true (by omega))
  have f1 : decide (b < 64) = false := decide_eq_false (by omega)
  by_cases h2 : b ≤ 4096
  case neg =>
    rw [NO _ (fun q => by have := q.2.b2; have e := q.1; simp only at this e; omega) h2]
    exact rv2 _ _ _ _ _ _ _ _ _ b w f0 f1 (decide_eq_true (by omega))
  have f2 : decide (b > 4096) = false := decide_eq_false (by omega)
  by_cases h3 : 8 ≤ xlog
  case neg =>
    rw [NO _ (fun q => q.2.l1) h3]
    exact rv3 _ _ _ _ _ _ _ _ _ b w f0 f1 f2 (decide_eq_true (by omega))
  have f3 : decide (xlog < 8) = false := decide_eq_false (by omega)
  by_cases h4 : xlog ≤ 512
  case neg =>
    rw [NO _ (fun q => q.2.l2) h4]
    exact rv4 _ _ _ _ _ _ _ _ _ b w f0 f1 f2 f3 (decide_eq_true (by omega))
  have f4 : decide (xlog > 512) = false := decide_eq_false (by omega)
  by_cases h5 : 40 ≤ b - 2 - xlog
  case neg =>
    rw [NO _ (fun q => by have := q.2.lb; have e := q.1; simp only at this e; omega) h5]
    exact rv5 _ _ _ _ _ _ _ _ _ b w h1 h2 h3 h4 f0 f1 f2 f3 f4 (decide_eq_true (by omega))
  have f5 : decide (b - 2 - xlog < 40) = false := decide_eq_false (by omega)
  cases k6 : upB xgen 1 with
  | false =>
    rw [NO (upB xgen 1 = true) (fun q => (upB_iff _ _).2 ⟨q.2.g1, q.2.g2⟩) (by rw [k6]; simp)]
    exact rv6 _ _ _ _ _ _ _ _ _ b w h1 h2 h3 h4 f0 f1 f2 f3 f4 f5 k6
  | true =>
    cases k7 : upB xep 1 with
    | false =>
      rw [NO (upB xep 1 = true) (fun q => (upB_iff _ _).2 ⟨q.2.e1, q.2.e2⟩) (by rw [k7]; simp)]
      exact rv7 _ _ _ _ _ _ _ _ _ b w h1 h2 h3 h4 f0 f1 f2 f3 f4 f5 k6 k7
    | true =>
      cases k8 : upB xst 1 with
      | false =>
        rw [NO (upB xst 1 = true) (fun q => (upB_iff _ _).2 ⟨q.2.s1, q.2.s2⟩) (by rw [k8]; simp)]
        exact rv8 _ _ _ _ _ _ _ _ _ b w h1 h2 h3 h4 f0 f1 f2 f3 f4 f5 k6 k7 k8
      | true =>
        cases k9 : upB xver 0 with
        | false =>
          rw [NO (upB xver 0 = true) (fun q => (upB_iff _ _).2 ⟨q.2.v1, q.2.v2⟩) (by rw [k9]; simp)]
          exact rv9 _ _ _ _ _ _ _ _ _ b w h1 h2 h3 h4 f0 f1 f2 f3 f4 f5 k6 k7 k8 k9
        | true =>
          have hs := (upB_iff _ _).1 k8
          have hm : (xst - 1).tmod xlog = (xst - 1) % xlog := Int.tmod_eq_emod_of_nonneg (by omega)
          by_cases h10 : xpl = (xst - 1) % xlog
          case neg =>
            rw [NO _ (fun q => q.2.pl) h10]
            exact rv10 _ _ _ _ _ _ _ _ _ _ b w h1 h2 h3 h4 hs.1 hs.2 hm f0 f1 f2 f3 f4 f5 (by rw [bne_iff_ne]; exact h10) k6 k7 k8 k9
          have f10 : (xpl != (xst - 1) % xlog) = false := by rw [bne_eq_false_iff_eq]; exact h10
          have g6 := (upB_iff _ _).1 k6
          have g7 := (upB_iff _ _).1 k7
          have g9 := (upB_iff _ _).1 k9
          have VV : ((xrt = 0 ∧ xcnt = 0) ∨ (2 + xlog ≤ xrt ∧ xrt < xblk ∧ 1 ≤ xcnt ∧ xcnt ≤ 1152921500311879680)) → vaB (Sup.mk xgen xep xblk xlog xst xpl xrt xcnt xver) b = true := fun q => (va_iff _ _).2 ⟨h0, ⟨by show 64 ≤ xblk; omega, by show xblk ≤ 4096; omega, h3, h4, by show 2 + xlog + 40 ≤ xblk; omega, g6.1, g6.2, g7.1, g7.2, hs.1, hs.2, h10, g9.1, g9.2, q⟩⟩
          by_cases h11 : xrt = 0
          · by_cases h12 : xcnt = 0
            · rw [VV (Or.inl ⟨h11, h12⟩)]
              exact rv11 _ _ _ _ _ _ _ _ _ _ b w h1 h2 h3 h4 hs.1 hs.2 hm f0 f1 f2 f3 f4 f5 f10 k6 k7 k8 k9 true (by rw [beq_iff_eq]; exact h11) (by rw [beq_iff_eq]; exact h12)
            · rw [NO (xcnt = 0) (fun q => by have := q.2.rt; simp only at this; omega) h12]
              exact rv11 _ _ _ _ _ _ _ _ _ _ b w h1 h2 h3 h4 hs.1 hs.2 hm f0 f1 f2 f3 f4 f5 f10 k6 k7 k8 k9 false (by rw [beq_iff_eq]; exact h11) (by rw [beq_eq_false_iff_ne]; exact h12)
          · have e0 : (xrt == 0) = false := by rw [beq_eq_false_iff_ne]; exact h11
            by_cases h12 : xrt ≥ 2 + xlog
            case neg =>
              rw [NO (xrt ≥ 2 + xlog) (fun q => by have := q.2.rt; simp only at this; omega) h12]
              exact rv12 _ _ _ _ _ _ _ _ _ _ b w h1 h2 h3 h4 hs.1 hs.2 hm f0 f1 f2 f3 f4 f5 f10 k6 k7 k8 k9 e0 (decide_eq_false h12)
            by_cases h13 : xrt < b
            case neg =>
              rw [NO (xrt < b) (fun q => by have := q.2.rt; have e := q.1; simp only at this e; omega) h13]
              exact rv13 _ _ _ _ _ _ _ _ _ _ b w h1 h2 h3 h4 hs.1 hs.2 hm f0 f1 f2 f3 f4 f5 f10 k6 k7 k8 k9 e0 (decide_eq_true h12) (decide_eq_false h13)
            cases kc : upB xcnt 1 with
            | false =>
              rw [NO (upB xcnt 1 = true) (fun q => (upB_iff _ _).2 (by have := q.2.rt; simp only at this; omega)) (by rw [kc]; simp)]
              exact rv14 _ _ _ _ _ _ _ _ _ _ b w h1 h2 h3 h4 hs.1 hs.2 hm f0 f1 f2 f3 f4 f5 f10 k6 k7 k8 k9 false e0 (decide_eq_true h12) (decide_eq_true h13) kc
            | true =>
              have gc := (upB_iff _ _).1 kc
              rw [VV (Or.inr ⟨h12, by omega, gc.1, gc.2⟩)]
              exact rv14 _ _ _ _ _ _ _ _ _ _ b w h1 h2 h3 h4 hs.1 hs.2 hm f0 f1 f2 f3 f4 f5 f10 k6 k7 k8 k9 true e0 (decide_eq_true h12) (decide_eq_true h13) kc
end Go.Proofs.Ytbdlebengmbooaa
end S0

section S1
namespace Go.Proofs.Ytbdlebengmbooaa.Sm
open Go.RowKit
set_option maxHeartbeats 400000 in
theorem rstep_any (x : BitVec 32) (w : World) :
    Calls Try.prog 72 #[.int .u32 (u x)] w fun e w' => e = .returned (.int .u32 (u (sh x))) ∧ w' = w := by
  have h0 := u_lo x
  have H : Hid ((u x % (2 : Int) == 1) = x.getLsbD 0) := u_odd x
  go_enter Try.func72, Try.ntmps72
  go_wp2
  · have h := H.out
    rw [‹(u x % 2 == 1) = true›] at h
    go_ret
    exact ⟨ret_int (by unfold sh; rw [← h, if_pos rfl, u_tdiv]; exact bits_xor_u _ 0x82F63B78#32), rfl⟩
  · have h := H.out
    rw [‹(u x % 2 == 1) = false›] at h
    go_ret
    exact ⟨ret_int (by unfold sh; rw [← h, if_neg (by simp), u_tdiv]), rfl⟩

set_option maxHeartbeats 400000 in
theorem rover_any (x : BitVec 32) (v : Value) (l : List (BitVec 8)) (w : World) (hv : Bytes w v l) :
    Calls Try.prog 71 #[.int .u32 (u x), v] w fun e w' => e = .returned (.int .u32 (u (over x l))) ∧ w' = w := by
  obtain ⟨a, cap, rfl, hlc, hcm, _, hc⟩ := hv
  unfold maxLen at hcm
  go_enter Try.func71, Try.ntmps71
  go_wp2
  go_loopg [0, 5, 6] l.length (fun g sw si sj wr => ∃ (k : Nat) (vj : Value), k ≤ l.length ∧ g = l.length - k ∧ si = .int .i64 k ∧ sj = vj ∧ sw = .int .u32 (u (over x (l.take k))) ∧ wr = w)
  case atStart => exact ⟨0, _, Nat.zero_le _, rfl, rfl, rfl, rfl, rfl⟩
  case round =>
    obtain ⟨k, vj, hk, hgk, rfl, rfl, rfl, rfl⟩ := hrel
    have G : Aside (gk = l.length - k) := hgk
    clear hgk
    by_cases hlt : k < l.length
    · obtain ⟨b, off, rfl, hcell⟩ := hc k hlt
      clear hc
      obtain ⟨y, hy⟩ : ∃ y, y = over x (l.take k) := ⟨_, rfl⟩
      obtain ⟨c, hcc⟩ : ∃ c, c = l.getD k 0#8 := ⟨_, rfl⟩
      rw [← hcc] at hcell
      rw [← hy]
      have A : Aside (y = over x (l.take k) ∧ c = l.getD k 0#8) := ⟨hy, hcc⟩
      clear hy hcc
      have b0 := c8_lo c
      have b1 := c8_hi c
      have hx := u_xor_c y c
      go_wp2
      clear hx hcell b0 b1
      go_loopg [0, 6] 8 (fun g sw sj wr' => ∃ (j : Nat), j ≤ 8 ∧ g = 8 - j ∧ sj = .int .i64 j ∧ sw = .int .u32 (u (shN j (y ^^^ c.zeroExtend 32))) ∧ wr' = wr)
      case atStart => exact ⟨0, by omega, rfl, rfl, rfl, rfl⟩
      case round =>
        obtain ⟨j, hj, hgj, rfl, rfl, rfl⟩ := hrel
        have G2 : Aside (gk = 8 - j) := hgj
        clear hgj
        by_cases hlj : j < 8
        · go_wp2_with (go_at_call 72; refine (rstep_any _ _).mono ?_; rintro e w' ⟨rfl, rfl⟩)
          go_roundg (8 - (j + 1))
          case measure => have := G2.out; omega
          case rel => exact ⟨j + 1, by omega, rfl, by go_num, by rw [shN_succ'], rfl⟩
        · go_wp2
          go_roundg (l.length - (k + 1))
          case measure => have := G.out; omega
          case rel =>
            obtain ⟨hy, hcc⟩ := A.out
            obtain rfl : j = 8 := by omega
            exact ⟨k + 1, _, by omega, rfl, by go_num, rfl, by rw [take_one l k 0#8 hlt, over_snoc, ← hy, ← hcc]; rfl, rfl⟩
    · go_wp2
      go_ret
      exact ⟨ret_int (by rw [List.take_of_length_le (by omega)]), rfl⟩

theorem u_ones : u (~~~ 0#32) = 4294967295 := by decide +kernel
theorem u_not' (x : BitVec 32) : bits .xor .u32 4294967295 (u x) = u (~~~ x) := u_not x

theorem rover_ones (v : Value) (l : List (BitVec 8)) (w : World) (hv : Bytes w v l) :
    Calls Try.prog 71 #[.int .u32 4294967295, v] w fun e w' => e = .returned (.int .u32 (u (over (~~~ 0#32) l))) ∧ w' = w := by
  have h := rover_any (~~~ 0#32) v l w hv
  rw [u_ones] at h; exact h

set_option maxHeartbeats 400000 in
theorem rsum_any (v : Value) (l : List (BitVec 8)) (w : World) (hv : Bytes w v l) :
    Calls Try.prog 67 #[v] w fun e w' => e = .returned (.int .u32 (u (upd 0#32 l))) ∧ w' = w := by
  go_enter Try.func67, Try.ntmps67
  go_wp2_with (go_at_call 71; refine (rover_ones v l _ hv).mono ?_; rintro e w' ⟨rfl, rfl⟩)
  go_ret
  exact ⟨ret_int (u_not' _), rfl⟩
theorem rover_eq {n : Int} {x : BitVec 32} (hn : n = u x) (v : Value) (l : List (BitVec 8)) (w : World) (hv : Bytes w v l) :
    Calls Try.prog 71 #[.int .u32 n, v] w fun e w' => e = .returned (.int .u32 (u (over x l))) ∧ w' = w := by
  rw [hn]; exact rover_any x v l w hv

set_option maxHeartbeats 400000 in
theorem rupdate_any (x : BitVec 32) (v : Value) (l : List (BitVec 8)) (w : World) (hv : Bytes w v l) :
    Calls Try.prog 68 #[.int .u32 (u x), v] w fun e w' => e = .returned (.int .u32 (u (upd x l))) ∧ w' = w := by
  go_enter Try.func68, Try.ntmps68
  go_wp2_with (go_at_call 71; refine (rover_eq (u_not' x) v l _ hv).mono ?_; rintro e w' ⟨rfl, rfl⟩)
  go_ret
  exact ⟨ret_int (u_not' _), rfl⟩

end Go.Proofs.Ytbdlebengmbooaa.Sm
end S1

section S2
namespace Go.Proofs.Ytbdlebengmbooaa
open Go.RowKit Go.Maps
set_option maxHeartbeats 1000000 in
theorem rput_any (g o n : Nat) (x : Nat) (L : List UInt8) (w : World) (hg : w.heap[g]? = some (.cells (cells8 L).toArray 5 (0, 0))) (hn : n ≤ 8) (hL : L.length = 512) (ho : o + n ≤ 512) (_hx : x < 9223372036854775808) :
    Calls Try.prog 54 #[.slice (some ⟨g, 0, none⟩) 512 512, .int .i64 (o : Int), .int .i64 (x : Int), .int .i64 (n : Int)] w fun e w' => e = .returned (.tuple #[]) ∧ w'.heap[g]? = some (.cells (cells8 (splice L o (leB n x))).toArray 5 (0, 0)) ∧ Kept (fun k => k = g) w w' := by
  have G := Lib.hid hg
  have LN := Lib.hid hL
  clear hg hL
  go_enter Try.func54, Try.ntmps54
  go_wp2_with fail
  go_loopg [8] n (fun gg si wr => ∃ (k : Nat), k ≤ n ∧ gg = n - k ∧ si = .int .i64 k ∧ wr.heap[g]? = some (.cells (cells8 (splice L o (leB k x))).toArray 5 (0, 0)) ∧ Kept (fun k => k = g) w wr)
  case atStart => exact ⟨0, Nat.zero_le _, rfl, rfl, by rw [show splice L o (leB 0 x) = L by simp [splice, leB]]; exact G.out, Kept.refl _ _⟩
  case round =>
    obtain ⟨k, hk, hgk, rfl, hp, hb⟩ := hrel
    have R : Aside (gk = n - k ∧ wr.heap[g]? = some (.cells (cells8 (splice L o (leB k x))).toArray 5 (0, 0)) ∧ Kept (fun k => k = g) w wr) := ⟨hgk, hp, hb⟩
    by_cases hlt : k < n
    · have hlt' : (k : Int) < (n : Int) := by omega
      have sl : (splice L o (leB k x)).length = 512 := by rw [length_splice _ _ _ (by rw [leB_length, LN.out]; omega), LN.out]
      obtain ⟨m, hm⟩ : ∃ m, m = o + k := ⟨_, rfl⟩
      have c1 : ∃ u, wr.cell? ⟨g, m, none⟩ = some u := by
        rw [cell_of_row wr _ _ _ _ _ hp]
        exact ⟨_, Array.getElem?_eq_getElem (by simp only [List.size_toArray, cells8_length, sl]; omega)⟩
      obtain ⟨u, c1⟩ := c1
      have c2 : wr.frozen? ⟨g, m, none⟩ = false := frozen_of_row wr _ _ _ _ hp
      have em : (o : Int) + (k : Int) = (m : Int) := by omega
      have hm5 : (m : Int) < 512 := by omega
      have MM := Lib.hid hm
      clear hgk hp hb sl hm
      have e8 : ((x : Int) / 2 ^ (8 * k) % 256) = c8 (UInt8.ofNat (x / 256 ^ k % 256)) := by
        have e2 : (2 : Int) ^ (8 * k) = ((256 ^ k : Nat) : Int) := by rw [show (256 : Nat) = 2 ^ 8 from rfl, ← Nat.pow_mul]; simp
        rw [c8_of _ (Nat.mod_lt _ (by decide)), e2]
        simp
      go_wp2_with fail
      go_roundg (n - (k + 1))
      case measure => have := R.out.1; omega
      case rel =>
        refine ⟨k + 1, by omega, rfl, by go_num, ?_, R.out.2.2.trans (kept_set (F := fun k => k = g) _ _ _ rfl) (fun _ _ h => h)⟩
        rw [heap_setCell_same _ _ _ _ _ _ R.out.2.1]
        congr 2
        apply Array.ext'
        rw [Array.toList_setIfInBounds, MM.out]
        show (cells8 (splice L o (leB k x))).set (o + k) _ = cells8 (splice L o (leB (k + 1) x))
        rw [leB_snoc, ← splice_snoc _ _ _ _ (by rw [leB_length, LN.out]; omega), leB_length]
        unfold cells8
        rw [List.map_set]
    · have ek : k = n := by omega
      subst ek
      clear hgk hp hb
      go_wp2_with fail
      first | go_end0 | refine bodyPost_ret (results_none rfl _ _ _) rfl ?_
      exact ⟨rfl, R.out.2.1, R.out.2.2⟩
/-- One byte more behind, in an int64. -/
theorem or_low (N : Nat) (c : UInt8) : bits .or .i64 (IntKind.i64.wrap ((N : Int) * 256)) (c8 c) = IntKind.i64.wrap (((c.toNat + 256 * N : Nat)) : Int) := by
  have hc := c.toNat_lt
  have h1 : (BitVec.ofInt 64 (IntKind.i64.wrap ((N : Int) * 256))).toNat = (N * 256) % 18446744073709551616 := by
    rw [BitVec.toNat_ofInt, IntKind.wrap_i64]; omega
  have h2 : (BitVec.ofInt 64 (c8 c)).toNat = c.toNat := by
    unfold c8
    rw [BitVec.ofInt_natCast, BitVec.toNat_ofNat]; exact Nat.mod_eq_of_lt (by omega)
  show IntKind.i64.wrap ((BitVec.ofInt 64 (IntKind.i64.wrap ((N : Int) * 256)) ||| BitVec.ofInt 64 (c8 c)).toNat : Int) = _
  rw [BitVec.toNat_or, h1, h2]
  have e : (N * 256) % 18446744073709551616 = (N % 72057594037927936) * 256 := by omega
  rw [e]
  have h3 := Nat.shiftLeft_add_eq_or_of_lt (show c.toNat < 2 ^ 8 by omega) (N % 72057594037927936)
  rw [Nat.shiftLeft_eq] at h3
  rw [show (256 : Nat) = 2 ^ 8 from rfl, ← h3, IntKind.wrap_i64, IntKind.wrap_i64]
  omega
theorem wrap_256 (N : Nat) : IntKind.i64.wrap (IntKind.i64.wrap (N : Int) * 256) = IntKind.i64.wrap ((N : Int) * 256) := by
  rw [IntKind.wrap_i64, IntKind.wrap_i64, IntKind.wrap_i64]; omega
def subB (b : List UInt8) (a n : Nat) : List UInt8 := (b.drop a).take n
theorem sub_cons (b : List UInt8) (m j : Nat) (h : m < b.length) : subB b m (j + 1) = b.getD m 0 :: subB b (m + 1) j := by
  unfold subB
  rw [List.drop_eq_getElem_cons h, List.take_succ_cons, List.getD_eq_getElem?_getD, List.getElem?_eq_getElem h, Option.getD_some]
set_option maxHeartbeats 1000000 in
theorem rgot_any (v : Value) (b : List UInt8) (o n : Nat) (w : World) (hv : Bytes w v b) (hb : b.length = 512) (ho : o + n ≤ 512) :
    Calls Try.prog 63 #[v, .int .i64 (o : Int), .int .i64 (n : Int)] w fun e w' => e = .returned (.int .i64 (IntKind.i64.wrap (leN (subB b o n) : Int))) ∧ w' = w := by
  obtain ⟨a, cap, rfl, hlc, hcm, _, hc⟩ := hv
  unfold maxLen at hcm
  have HC : Hid (∀ k, k < 512 → ∃ bb off, a = some ⟨bb, off, none⟩ ∧ w.cell? ⟨bb, off + k, none⟩ = some (.int .u8 (c8 (b.getD k 0)))) := Lib.hid (by rw [← hb]; exact hc)
  rw [hb] at hlc ⊢
  have LB := Lib.hid hb
  clear hc hb
  go_enter Try.func63, Try.ntmps63
  go_wp2_with fail
  go_loopg [7, 8] n (fun gg sv si wr => ∃ (j : Nat) (ii : Int), j ≤ n ∧ gg = n - j ∧ ii = (n : Int) - 1 - (j : Int) ∧ si = .int .i64 ii ∧ sv = .int .i64 (IntKind.i64.wrap (leN (subB b (o + n - j) j) : Int)) ∧ wr = w)
  case atStart => exact ⟨0, (n : Int) - 1, by omega, rfl, by omega, rfl, by simp [subB, leN, IntKind.wrap_i64], rfl⟩
  case round =>
    obtain ⟨j, ii, hj, hg, hii, rfl, rfl, hwr⟩ := hrel
    obtain rfl := hwr.symm
    have G := Lib.hid hg
    clear hg
    by_cases hlt : j < n
    · have f1 : decide (ii ≥ 0) = true := decide_eq_true (by omega)
      have f1' : (0 : Int) ≤ ii := by omega
      obtain ⟨m, hm⟩ : ∃ m, m = o + n - (j + 1) := ⟨_, rfl⟩
      have em : (o : Int) + ii = (m : Int) := by omega
      have hm5 : (m : Int) < 512 := by omega
      obtain ⟨bb, off, rfl, c0⟩ := HC.out m (by omega)
      obtain ⟨c, hcc⟩ : ∃ c, c = b.getD m 0 := ⟨_, rfl⟩
      rw [← hcc] at c0
      obtain ⟨N, hN⟩ : ∃ N, N = leN (subB b (o + n - j) j) := ⟨_, rfl⟩
      have NX : Hid (leN (subB b (o + n - (j + 1)) (j + 1)) = c.toNat + 256 * N) := Lib.hid (by
        rw [← hm, sub_cons b m j (by rw [LB.out]; omega), leN, ← hcc, hN]
        congr 3
        rw [hm]
        congr 1
        omega)
      rw [← hN]
      have II := Lib.hid hii
      have OL := Lib.hid (or_low N c)
      have WL := Lib.hid (wrap_256 N)
      obtain ⟨n8, h8⟩ : ∃ n8, n8 = c8 c := ⟨_, rfl⟩
      rw [← h8] at c0 OL
      obtain ⟨V, hV⟩ : ∃ V, V = IntKind.i64.wrap (N : Int) := ⟨_, rfl⟩
      rw [← hV] at WL ⊢
      have b0 : 0 ≤ n8 := by rw [h8]; exact c8_lo c
      have b1 : n8 < 256 := by rw [h8]; exact c8_hi c
      clear hcc hN hii hm h8 hV
      go_wp2_with fail
      go_roundg (n - (j + 1))
      case measure => have := G.out; omega
      case rel => exact ⟨j + 1, ii - 1, by omega, rfl, by have := II.out; omega, rfl, by rw [NX.out, ← OL.out, ← WL.out, show IntKind.i64.wrap (V * 256) = wrap64 (V * 256) by first | exact IntWalk.i64_left _ | exact Go.IntWalk.i64_left _ | (rw [IntKind.wrap_i64]; unfold wrap64; rfl)], rfl⟩
    · have f1 : decide (ii ≥ 0) = false := decide_eq_false (by omega)
      have ej : Hid (j = n) := Lib.hid (by omega)
      clear hii
      go_wp2_with fail
      go_ret
      exact ⟨ret_int (by rw [ej.out, Nat.add_sub_cancel]), rfl⟩
end Go.Proofs.Ytbdlebengmbooaa
end S2

section S3
namespace Go.Proofs.Ytbdlebengmbooaa
open Go.RowKit Go.Maps
theorem upd_app (a b : List (BitVec 8)) : Sm.upd (Sm.upd 0#32 a) b = Sm.upd 0#32 (a ++ b) := by
  unfold Sm.upd
  rw [BitVec.not_not, Sm.over_app]
set_option maxHeartbeats 1000000 in
theorem sumOf_any (gb : Nat) (l : List UInt8) (w : World) (hv : Bytes w (.slice (some ⟨gb, 0, none⟩) 512 512) l) (hl : l.length = 512) :
    Calls Try.prog 55 #[.slice (some ⟨gb, 0, none⟩) 512 512] w fun e w' => e = .returned (.int .u32 (crc (l.take 500 ++ l.drop 504) : Int)) ∧ w' = w := by
  have hv' : Bytes w (.slice (some ⟨gb, 0, none⟩) l.length 512) l := by rw [hl]; exact hv
  have h1 : Bytes w (.slice (some ⟨gb, 0, none⟩) 500 512) (l.take 500) := hv'.take 500 (by omega)
  have h2 : Bytes w (.slice (some ⟨gb, 504, none⟩) 8 8) (l.drop 504) := by
    have := hv'.drop 504 (by omega)
    rw [hl] at this
    simpa [add_plain] using this
  have S1 := Lib.hid (Sm.rsum_any _ _ w (sm_bytes h1))
  have S2 := Lib.hid (Sm.rupdate_any (Sm.upd 0#32 ((l.take 500).map (·.toBitVec))) _ _ w (sm_bytes h2))
  have E : Hid (Sm.u (Sm.upd (Sm.upd 0#32 ((l.take 500).map (·.toBitVec))) ((l.drop 504).map (·.toBitVec))) = (crc (l.take 500 ++ l.drop 504) : Int)) := Lib.hid (by
    rw [upd_app, ← List.map_append]; rfl)
  obtain ⟨u1, hu1⟩ : ∃ u1, u1 = Sm.u (Sm.upd 0#32 ((l.take 500).map (·.toBitVec))) := ⟨_, rfl⟩
  rw [← hu1] at S1 S2
  rw [E.out] at S2
  clear hv hv' h1 h2 hu1 E
  go_enter Try.func55, Try.ntmps55
  go_wp2_with fail
  refine S1.out.mono ?_
  rintro _ w1 ⟨rfl, e1⟩
  obtain rfl := e1.symm
  go_wp2_with fail
  refine S2.out.mono ?_
  rintro _ w1 ⟨rfl, e1⟩
  obtain rfl := e1.symm
  go_wp2_with fail
  go_ret
  exact ⟨rfl, rfl⟩
end Go.Proofs.Ytbdlebengmbooaa
end S3

section S4
namespace Go.Proofs.Ytbdlebengmbooaa
open Go.RowKit Go.Maps
theorem set8r (w : World) (g k : Nat) (l : List UInt8) (c : UInt8) (h : w.heap[g]? = some (.cells (cells8 l).toArray 5 (0, 0))) : (w.setCell ⟨g, k, none⟩ (.int .u8 (c8 c))).heap[g]? = some (.cells (cells8 (l.set k c)).toArray 5 (0, 0)) := by
  rw [heap_setCell_same _ _ _ _ _ _ h]
  congr 2
  apply Array.ext'
  rw [Array.toList_setIfInBounds]
  unfold cells8
  rw [List.map_set]
theorem rly_put {w W : World} {gx gb : Nat} {s : Sup} {L : List UInt8} (h : Ly w W gx gb s L) (o n x : Nat) (hn : n ≤ 8) (hL : L.length = 512) (ho : o + n ≤ 512) (hx : x < 9223372036854775808) :
    Calls Try.prog 54 #[.slice (some ⟨gb, 0, none⟩) 512 512, .int .i64 (o : Int), .int .i64 (x : Int), .int .i64 (n : Int)] W fun e w' => e = .returned (.tuple #[]) ∧ Ly w w' gx gb s (splice L o (leB n x)) := by
  refine (rput_any gb o n x L W h.bb hn hL ho hx).mono ?_
  rintro e w' ⟨rfl, h1, h2⟩
  exact ⟨rfl, h.upd h2 h1⟩
set_option maxHeartbeats 8000000 in
set_option maxRecDepth 100000 in
theorem renc_nat (g e b l t a r c v : Nat) (hg : g ≤ 1152921500311879680) (he : e ≤ 1152921500311879680) (hb : b ≤ 4096) (hl : l ≤ 512) (ht : t ≤ 1152921500311879680) (ha : a ≤ 512) (hr : r ≤ 4096) (hc : c ≤ 1152921500311879680) (hv : v ≤ 1152921500311879680) (hva : vaB (sup g e b l t a r c v) (b : Int) = true) (w : World) :
    Calls Try.prog 34 #[.agg (sup g e b l t a r c v).arr] w fun q w' => ∃ gb, q = .returned (.tuple #[.slice (some ⟨gb, 0, none⟩) 512 512, .int .i64 0]) ∧ Own w.heap.size w' (.slice (some ⟨gb, 0, none⟩) 512 512) (layA (sup g e b l t a r c v)) ∧ Below w.heap.size w w' := by
  obtain ⟨G, hG⟩ : ∃ G, G = sup g e b l t a r c v := ⟨_, rfl⟩
  rw [← hG] at hva ⊢
  have LN := Lib.hid (la_len G)
  have EQ := Lib.hid (la12_eq G)
  have L0 : Hid (la1 G = splice la0 4 (leB 4 1) ∧ la2 G = splice (la1 G) 8 (leB 8 g) ∧ la3 G = splice (la2 G) 16 (leB 8 e) ∧ la4 G = splice (la3 G) 24 (leB 4 b) ∧ la5 G = splice (la4 G) 28 (leB 4 l) ∧ la6 G = splice (la5 G) 32 (leB 8 t) ∧ la7 G = splice (la6 G) 40 (leB 4 a) ∧ la8 G = splice (la7 G) 44 (leB 4 r) ∧ la9 G = splice (la8 G) 48 (leB 8 c) ∧ la10 G = splice (la9 G) 56 (leB 8 v) ∧ la11 G = splice (la10 G) 504 (leB 8 g)) := Lib.hid (by rw [hG]; exact ⟨rfl, rfl, rfl, rfl, rfl, rfl, rfl, rfl, rfl, rfl, rfl⟩)
  have GA : Hid (G.arr = #[.int .i64 (g : Int), .int .i64 (e : Int), .int .i64 (b : Int), .int .i64 (l : Int), .int .i64 (t : Int), .int .i64 (a : Int), .int .i64 (r : Int), .int .i64 (c : Int), .int .i64 (v : Int)]) := Lib.hid (by rw [hG]; rfl)
  rw [GA.out]
  obtain ⟨R, hR⟩ : ∃ R : List UInt8, R = List.replicate 512 0 := ⟨_, rfl⟩
  have RL : R.length = 512 := by rw [hR, List.length_replicate]
  have LA0 : la0 = (((R.set 0 66).set 1 83).set 2 65).set 3 82 := by rw [hR]; rfl
  obtain ⟨gx, hgx⟩ : ∃ gx, gx = w.heap.size := ⟨_, rfl⟩
  obtain ⟨X0, hX0⟩ : ∃ X0, X0 = w.alloc (.cells #[.int .i64 (g : Int), .int .i64 (e : Int), .int .i64 (b : Int), .int .i64 (l : Int), .int .i64 (t : Int), .int .i64 (a : Int), .int .i64 (r : Int), .int .i64 (c : Int), .int .i64 (v : Int)] 34) := ⟨_, rfl⟩
  have BX : Hid (Below w.heap.size w X0) := Lib.hid (by rw [hX0]; exact (Below.refl _ _).alloc (Nat.le_refl _) _)
  have GX : Hid (X0.heap[gx]? = some (.cells G.arr 34 (0, 0))) := Lib.hid (by rw [hX0, hgx, GA.out]; exact heap_alloc_new _ _)
  have VA : Hid (Calls Try.prog 32 #[.agg #[.int .i64 (g : Int), .int .i64 (e : Int), .int .i64 (b : Int), .int .i64 (l : Int), .int .i64 (t : Int), .int .i64 (a : Int), .int .i64 (r : Int), .int .i64 (c : Int), .int .i64 (v : Int)], .int .i64 (b : Int)] X0 fun e w' => e = .returned (.bool true) ∧ Below X0.heap.size X0 w') := Lib.hid (by have := rvalid_any G (b : Int) X0; rw [hva, GA.out] at this; exact this)
  have KS : Hid (∀ {W : World} {gb : Nat} {L : List UInt8}, Ly w W gx gb G L → W.cell? ⟨gx, 0, none⟩ = some (.int .i64 (g : Int)) ∧ W.cell? ⟨gx, 1, none⟩ = some (.int .i64 (e : Int)) ∧ W.cell? ⟨gx, 2, none⟩ = some (.int .i64 (b : Int)) ∧ W.cell? ⟨gx, 3, none⟩ = some (.int .i64 (l : Int)) ∧ W.cell? ⟨gx, 4, none⟩ = some (.int .i64 (t : Int)) ∧ W.cell? ⟨gx, 5, none⟩ = some (.int .i64 (a : Int)) ∧ W.cell? ⟨gx, 6, none⟩ = some (.int .i64 (r : Int)) ∧ W.cell? ⟨gx, 7, none⟩ = some (.int .i64 (c : Int)) ∧ W.cell? ⟨gx, 8, none⟩ = some (.int .i64 (v : Int))) := Lib.hid (fun h => ⟨by rw [h.fld 0, GA.out]; rfl, by rw [h.fld 1, GA.out]; rfl, by rw [h.fld 2, GA.out]; rfl, by rw [h.fld 3, GA.out]; rfl, by rw [h.fld 4, GA.out]; rfl, by rw [h.fld 5, GA.out]; rfl, by rw [h.fld 6, GA.out]; rfl, by rw [h.fld 7, GA.out]; rfl, by rw [h.fld 8, GA.out]; rfl⟩)
  have q0 : X0.cell? ⟨gx, 0, none⟩ = some (.int .i64 (g : Int)) := by rw [cell_of_row _ _ _ _ _ _ GX.out, GA.out]; rfl
  have q1 : X0.cell? ⟨gx, 1, none⟩ = some (.int .i64 (e : Int)) := by rw [cell_of_row _ _ _ _ _ _ GX.out, GA.out]; rfl
  have q2 : X0.cell? ⟨gx, 2, none⟩ = some (.int .i64 (b : Int)) := by rw [cell_of_row _ _ _ _ _ _ GX.out, GA.out]; rfl
  have q3 : X0.cell? ⟨gx, 3, none⟩ = some (.int .i64 (l : Int)) := by rw [cell_of_row _ _ _ _ _ _ GX.out, GA.out]; rfl
  have q4 : X0.cell? ⟨gx, 4, none⟩ = some (.int .i64 (t : Int)) := by rw [cell_of_row _ _ _ _ _ _ GX.out, GA.out]; rfl
  have q5 : X0.cell? ⟨gx, 5, none⟩ = some (.int .i64 (a : Int)) := by rw [cell_of_row _ _ _ _ _ _ GX.out, GA.out]; rfl
  have q6 : X0.cell? ⟨gx, 6, none⟩ = some (.int .i64 (r : Int)) := by rw [cell_of_row _ _ _ _ _ _ GX.out, GA.out]; rfl
  have q7 : X0.cell? ⟨gx, 7, none⟩ = some (.int .i64 (c : Int)) := by rw [cell_of_row _ _ _ _ _ _ GX.out, GA.out]; rfl
  have q8 : X0.cell? ⟨gx, 8, none⟩ = some (.int .i64 (v : Int)) := by rw [cell_of_row _ _ _ _ _ _ GX.out, GA.out]; rfl
  have hX0' := hX0.symm
  have hgx' := hgx.symm
  have HGX := Lib.hid hgx
  clear hX0 hgx hG hva
  go_enter Try.func34, Try.ntmps34
  go_wp2_with fail
  refine VA.out.mono ?_
  rintro e w1 ⟨rfl, b1⟩
  have B1 := Lib.hid (And.intro (BX.out.trans (b1.mono BX.out.size)) ((b1.block gx (lt_of_heap GX.out)).trans GX.out))
  obtain ⟨gb, hgb⟩ : ∃ gb, gb = w1.heap.size := ⟨_, rfl⟩
  obtain ⟨Y, hY⟩ : ∃ Y, Y = w1.alloc (.cells (madeCells #[.int .u8 0] 512) 5) := ⟨_, rfl⟩
  have hm : (Instr.makeSlice 35 (.int .i64 512) (.int .i64 512)).run Try.prog w1 = .ok (.slice (some ⟨gb, 0, none⟩) 512 512) Y := by rw [hY, hgb]; exact make_bytes w1 512 512 rfl rfl (Nat.le_refl _) (by decide)
  have YY : Ly w Y gx gb G R := by
    have bY : Below w1.heap.size w1 Y := by rw [hY]; exact (Below.refl _ _).alloc (Nat.le_refl _) _
    have l1 := lt_of_heap B1.out.2
    refine ⟨by omega, ⟨by rw [HGX.out]; exact Nat.le_refl _, by have := B1.out.1.size; omega⟩, (bY.block gx l1).trans B1.out.2, by rw [hY, hgb, heap_alloc_new, made_zeros, hR], B1.out.1.trans (bY.mono B1.out.1.size)⟩
  obtain ⟨Z1, hZ1⟩ : ∃ Z, Z = Y.setCell ⟨gb, 0, none⟩ (.int .u8 66) := ⟨_, rfl⟩
  have c0 : ∃ u, Y.cell? ⟨gb, 0, none⟩ = some u := by rw [cell_of_row _ _ _ _ _ _ YY.bb]; exact ⟨_, Array.getElem?_eq_getElem (by simp only [List.size_toArray, cells8_length, RL]; omega)⟩
  have f0 : Y.frozen? ⟨gb, 0, none⟩ = false := frozen_of_row _ _ _ _ _ YY.bb
  have Z1Z1 : Ly w Z1 gx gb G (R.set 0 66) := by
    rw [hZ1]
    refine YY.upd (kept_set (F := fun k => k = gb) Y _ _ rfl) ?_
    exact set8r _ gb 0 _ 66 YY.bb
  obtain ⟨u0, c0⟩ := c0
  obtain ⟨Z2, hZ2⟩ : ∃ Z, Z = Z1.setCell ⟨gb, 1, none⟩ (.int .u8 83) := ⟨_, rfl⟩
  have c1 : ∃ u, Z1.cell? ⟨gb, 1, none⟩ = some u := by rw [cell_of_row _ _ _ _ _ _ Z1Z1.bb]; exact ⟨_, Array.getElem?_eq_getElem (by simp only [List.size_toArray, cells8_length, List.length_set, RL]; omega)⟩
  have f1 : Z1.frozen? ⟨gb, 1, none⟩ = false := frozen_of_row _ _ _ _ _ Z1Z1.bb
  have Z2Z2 : Ly w Z2 gx gb G ((R.set 0 66).set 1 83) := by
    rw [hZ2]
    refine Z1Z1.upd (kept_set (F := fun k => k = gb) Z1 _ _ rfl) ?_
    exact set8r _ gb 1 _ 83 Z1Z1.bb
  obtain ⟨u1, c1⟩ := c1
  obtain ⟨Z3, hZ3⟩ : ∃ Z, Z = Z2.setCell ⟨gb, 2, none⟩ (.int .u8 65) := ⟨_, rfl⟩
  have c2 : ∃ u, Z2.cell? ⟨gb, 2, none⟩ = some u := by rw [cell_of_row _ _ _ _ _ _ Z2Z2.bb]; exact ⟨_, Array.getElem?_eq_getElem (by simp only [List.size_toArray, cells8_length, List.length_set, RL]; omega)⟩
  have f2 : Z2.frozen? ⟨gb, 2, none⟩ = false := frozen_of_row _ _ _ _ _ Z2Z2.bb
  have Z3Z3 : Ly w Z3 gx gb G (((R.set 0 66).set 1 83).set 2 65) := by
    rw [hZ3]
    refine Z2Z2.upd (kept_set (F := fun k => k = gb) Z2 _ _ rfl) ?_
    exact set8r _ gb 2 _ 65 Z2Z2.bb
  obtain ⟨u2, c2⟩ := c2
  obtain ⟨Z4, hZ4⟩ : ∃ Z, Z = Z3.setCell ⟨gb, 3, none⟩ (.int .u8 82) := ⟨_, rfl⟩
  have c3 : ∃ u, Z3.cell? ⟨gb, 3, none⟩ = some u := by rw [cell_of_row _ _ _ _ _ _ Z3Z3.bb]; exact ⟨_, Array.getElem?_eq_getElem (by simp only [List.size_toArray, cells8_length, List.length_set, RL]; omega)⟩
  have f3 : Z3.frozen? ⟨gb, 3, none⟩ = false := frozen_of_row _ _ _ _ _ Z3Z3.bb
  have Z4Z4 : Ly w Z4 gx gb G ((((R.set 0 66).set 1 83).set 2 65).set 3 82) := by
    rw [hZ4]
    refine Z3Z3.upd (kept_set (F := fun k => k = gb) Z3 _ _ rfl) ?_
    exact set8r _ gb 3 _ 82 Z3Z3.bb
  obtain ⟨u3, c3⟩ := c3
  have H0 : Hid (Ly w Z4 gx gb G la0) := Lib.hid (by rw [LA0]; exact Z4Z4)
  have hZ1' := hZ1.symm
  have hZ2' := hZ2.symm
  have hZ3' := hZ3.symm
  have hZ4' := hZ4.symm
  clear hY hgb YY Z1Z1 Z2Z2 Z3Z3 Z4Z4 hZ1 hZ2 hZ3 hZ4 b1 LA0 RL hR q0 q1 q2 q3 q4 q5 q6 q7 q8 hX0' hgx' VA
  have PU : Hid (Calls Try.prog 54 #[.slice (some ⟨gb, 0, none⟩) 512 512, .int .i64 ((4 : Nat) : Int), .int .i64 ((1 : Nat) : Int), .int .i64 ((4 : Nat) : Int)] Z4 fun r w' => r = .returned (.tuple #[]) ∧ Ly w w' gx gb G (la1 G)) := Lib.hid (by rw [L0.out.1]; exact rly_put H0.out 4 4 1 (by decide) LN.out.1 (by decide) (by decide))
  go_wp2_with fail
  refine PU.out.mono ?_
  rintro r1 w2 ⟨rfl, h⟩
  have H1 := Lib.hid h
  clear h PU H0 hm hZ1' hZ2' hZ3' hZ4' c0 c1 c2 c3 f0 f1 f2 f3
  have PU : Hid (Calls Try.prog 54 #[.slice (some ⟨gb, 0, none⟩) 512 512, .int .i64 ((8 : Nat) : Int), .int .i64 (g : Int), .int .i64 ((8 : Nat) : Int)] w2 fun r w' => r = .returned (.tuple #[]) ∧ Ly w w' gx gb G (la2 G)) := Lib.hid (by rw [L0.out.2.1]; exact rly_put H1.out 8 8 g (by decide) LN.out.2.1 (by decide) (by omega))
  have zc := (KS.out H1.out).1
  go_wp2_with fail
  refine PU.out.mono ?_
  rintro r1 w3 ⟨rfl, h⟩
  have H2 := Lib.hid h
  clear h PU H1 zc
  have PU : Hid (Calls Try.prog 54 #[.slice (some ⟨gb, 0, none⟩) 512 512, .int .i64 ((16 : Nat) : Int), .int .i64 (e : Int), .int .i64 ((8 : Nat) : Int)] w3 fun r w' => r = .returned (.tuple #[]) ∧ Ly w w' gx gb G (la3 G)) := Lib.hid (by rw [L0.out.2.2.1]; exact rly_put H2.out 16 8 e (by decide) LN.out.2.2.1 (by decide) (by omega))
  have zc := (KS.out H2.out).2.1
  go_wp2_with fail
  refine PU.out.mono ?_
  rintro r1 w4 ⟨rfl, h⟩
  have H3 := Lib.hid h
  clear h PU H2 zc
  have PU : Hid (Calls Try.prog 54 #[.slice (some ⟨gb, 0, none⟩) 512 512, .int .i64 ((24 : Nat) : Int), .int .i64 (b : Int), .int .i64 ((4 : Nat) : Int)] w4 fun r w' => r = .returned (.tuple #[]) ∧ Ly w w' gx gb G (la4 G)) := Lib.hid (by rw [L0.out.2.2.2.1]; exact rly_put H3.out 24 4 b (by decide) LN.out.2.2.2.1 (by decide) (by omega))
  have zc := (KS.out H3.out).2.2.1
  go_wp2_with fail
  refine PU.out.mono ?_
  rintro r1 w5 ⟨rfl, h⟩
  have H4 := Lib.hid h
  clear h PU H3 zc
  have PU : Hid (Calls Try.prog 54 #[.slice (some ⟨gb, 0, none⟩) 512 512, .int .i64 ((28 : Nat) : Int), .int .i64 (l : Int), .int .i64 ((4 : Nat) : Int)] w5 fun r w' => r = .returned (.tuple #[]) ∧ Ly w w' gx gb G (la5 G)) := Lib.hid (by rw [L0.out.2.2.2.2.1]; exact rly_put H4.out 28 4 l (by decide) LN.out.2.2.2.2.1 (by decide) (by omega))
  have zc := (KS.out H4.out).2.2.2.1
  go_wp2_with fail
  refine PU.out.mono ?_
  rintro r1 w6 ⟨rfl, h⟩
  have H5 := Lib.hid h
  clear h PU H4 zc
  have PU : Hid (Calls Try.prog 54 #[.slice (some ⟨gb, 0, none⟩) 512 512, .int .i64 ((32 : Nat) : Int), .int .i64 (t : Int), .int .i64 ((8 : Nat) : Int)] w6 fun r w' => r = .returned (.tuple #[]) ∧ Ly w w' gx gb G (la6 G)) := Lib.hid (by rw [L0.out.2.2.2.2.2.1]; exact rly_put H5.out 32 8 t (by decide) LN.out.2.2.2.2.2.1 (by decide) (by omega))
  have zc := (KS.out H5.out).2.2.2.2.1
  go_wp2_with fail
  refine PU.out.mono ?_
  rintro r1 w7 ⟨rfl, h⟩
  have H6 := Lib.hid h
  clear h PU H5 zc
  have PU : Hid (Calls Try.prog 54 #[.slice (some ⟨gb, 0, none⟩) 512 512, .int .i64 ((40 : Nat) : Int), .int .i64 (a : Int), .int .i64 ((4 : Nat) : Int)] w7 fun r w' => r = .returned (.tuple #[]) ∧ Ly w w' gx gb G (la7 G)) := Lib.hid (by rw [L0.out.2.2.2.2.2.2.1]; exact rly_put H6.out 40 4 a (by decide) LN.out.2.2.2.2.2.2.1 (by decide) (by omega))
  have zc := (KS.out H6.out).2.2.2.2.2.1
  go_wp2_with fail
  refine PU.out.mono ?_
  rintro r1 w8 ⟨rfl, h⟩
  have H7 := Lib.hid h
  clear h PU H6 zc
  have PU : Hid (Calls Try.prog 54 #[.slice (some ⟨gb, 0, none⟩) 512 512, .int .i64 ((44 : Nat) : Int), .int .i64 (r : Int), .int .i64 ((4 : Nat) : Int)] w8 fun r w' => r = .returned (.tuple #[]) ∧ Ly w w' gx gb G (la8 G)) := Lib.hid (by rw [L0.out.2.2.2.2.2.2.2.1]; exact rly_put H7.out 44 4 r (by decide) LN.out.2.2.2.2.2.2.2.1 (by decide) (by omega))
  have zc := (KS.out H7.out).2.2.2.2.2.2.1
  go_wp2_with fail
  refine PU.out.mono ?_
  rintro r1 w9 ⟨rfl, h⟩
  have H8 := Lib.hid h
  clear h PU H7 zc
  have PU : Hid (Calls Try.prog 54 #[.slice (some ⟨gb, 0, none⟩) 512 512, .int .i64 ((48 : Nat) : Int), .int .i64 (c : Int), .int .i64 ((8 : Nat) : Int)] w9 fun r w' => r = .returned (.tuple #[]) ∧ Ly w w' gx gb G (la9 G)) := Lib.hid (by rw [L0.out.2.2.2.2.2.2.2.2.1]; exact rly_put H8.out 48 8 c (by decide) LN.out.2.2.2.2.2.2.2.2.1 (by decide) (by omega))
  have zc := (KS.out H8.out).2.2.2.2.2.2.2.1
  go_wp2_with fail
  refine PU.out.mono ?_
  rintro r1 w10 ⟨rfl, h⟩
  have H9 := Lib.hid h
  clear h PU H8 zc
  have PU : Hid (Calls Try.prog 54 #[.slice (some ⟨gb, 0, none⟩) 512 512, .int .i64 ((56 : Nat) : Int), .int .i64 (v : Int), .int .i64 ((8 : Nat) : Int)] w10 fun r w' => r = .returned (.tuple #[]) ∧ Ly w w' gx gb G (la10 G)) := Lib.hid (by rw [L0.out.2.2.2.2.2.2.2.2.2.1]; exact rly_put H9.out 56 8 v (by decide) LN.out.2.2.2.2.2.2.2.2.2.1 (by decide) (by omega))
  have zc := (KS.out H9.out).2.2.2.2.2.2.2.2
  go_wp2_with fail
  refine PU.out.mono ?_
  rintro r1 w11 ⟨rfl, h⟩
  have H10 := Lib.hid h
  clear h PU H9 zc
  have PU : Hid (Calls Try.prog 54 #[.slice (some ⟨gb, 0, none⟩) 512 512, .int .i64 ((504 : Nat) : Int), .int .i64 (g : Int), .int .i64 ((8 : Nat) : Int)] w11 fun r w' => r = .returned (.tuple #[]) ∧ Ly w w' gx gb G (la11 G)) := Lib.hid (by rw [L0.out.2.2.2.2.2.2.2.2.2.2]; exact rly_put H10.out 504 8 g (by decide) LN.out.2.2.2.2.2.2.2.2.2.2.1 (by decide) (by omega))
  have zc := (KS.out H10.out).1
  go_wp2_with fail
  refine PU.out.mono ?_
  rintro r1 w12 ⟨rfl, h⟩
  have H11 := Lib.hid h
  clear h PU H10 zc
  obtain ⟨C, hC⟩ : ∃ C, C = crc ((la11 G).take 500 ++ (la11 G).drop 504) := ⟨_, rfl⟩
  have hC32 : C < 4294967296 := by rw [hC]; exact crc_lt _
  have CC := Lib.hid hC
  have wC : IntKind.i64.wrap (C : Int) = (C : Int) := by rw [IntKind.wrap_i64]; omega
  have SO := Lib.hid (sumOf_any gb (la11 G) w12 (by have := H11.out.bytes LN.out.2.2.2.2.2.2.2.2.2.2.2 0 512 (by omega); rw [List.drop_zero, List.take_of_length_le (by rw [LN.out.2.2.2.2.2.2.2.2.2.2.2]; exact Nat.le_refl _)] at this; exact this) LN.out.2.2.2.2.2.2.2.2.2.2.2)
  rw [← hC] at SO
  clear hC
  go_wp2_with fail
  refine SO.out.mono ?_
  rintro r1 w13 ⟨rfl, e13⟩
  obtain rfl := e13.symm
  have PU : Hid (Calls Try.prog 54 #[.slice (some ⟨gb, 0, none⟩) 512 512, .int .i64 ((500 : Nat) : Int), .int .i64 (C : Int), .int .i64 ((4 : Nat) : Int)] w12 fun r w' => r = .returned (.tuple #[]) ∧ Ly w w' gx gb G (la12 G)) := Lib.hid (by
    have e : la12 G = splice (la11 G) 500 (leB 4 C) := by rw [CC.out]; rfl
    rw [e]
    exact rly_put H11.out 500 4 C (by decide) LN.out.2.2.2.2.2.2.2.2.2.2.2 (by decide) (by omega))
  clear SO
  go_wp2_with fail
  refine PU.out.mono ?_
  rintro r1 w14 ⟨rfl, h⟩
  have H13 := Lib.hid h
  clear h PU H11
  go_wp2_with fail
  go_ret2
  refine ⟨gb, rfl, ?_, H13.out.bl⟩
  rw [← EQ.out]
  exact own_of H13.out.bb H13.out.lo.2 (by rw [EQ.out]; exact layA_length G) (by decide)
set_option maxRecDepth 100000 in
theorem renc_yes (s : Sup) (w : World) (h : vaB s s.blk = true) : Calls Try.prog 34 #[.agg s.arr] w fun e w' => ∃ gb, e = .returned (.tuple #[.slice (some ⟨gb, 0, none⟩) 512 512, .int .i64 0]) ∧ Own w.heap.size w' (.slice (some ⟨gb, 0, none⟩) 512 512) (layA s) ∧ Below w.heap.size w w' := by
  have hs := (vd_iff s).1 h
  obtain ⟨g, e, b, l, t, a, r, c, v, rfl⟩ := hs.nat
  obtain ⟨b1, b2, l1, l2, lb, g1, g2, e1, e2, s1, s2, p1, v1, v2, r1⟩ := hs
  simp only at *
  have p2 : (a : Int) < (l : Int) := by rw [p1]; exact Int.emod_lt_of_pos _ (by omega)
  exact renc_nat g e b l t a r c v (by omega) (by omega) (by omega) (by omega) (by omega) (by omega) (by omega) (by omega) (by omega) h w
set_option maxRecDepth 100000 in
set_option maxHeartbeats 4000000 in
theorem renc_no (s : Sup) (w : World) (h : vaB s s.blk = false) : Calls Try.prog 34 #[.agg s.arr] w fun e w' => e = .returned (.tuple #[.slice none 0 0, .int .i64 1]) ∧ Below w.heap.size w w' := by
  obtain ⟨xgen, xep, xblk, xlog, xst, xpl, xrt, xcnt, xver⟩ := s
  have VA : Hid (∀ W, Calls Try.prog 32 #[.agg #[.int .i64 xgen, .int .i64 xep, .int .i64 xblk, .int .i64 xlog, .int .i64 xst, .int .i64 xpl, .int .i64 xrt, .int .i64 xcnt, .int .i64 xver], .int .i64 xblk] W fun e w' => e = .returned (.bool false) ∧ Below W.heap.size W w') := Lib.hid (fun W => by have := rvalid_any (Sup.mk xgen xep xblk xlog xst xpl xrt xcnt xver) xblk W; rw [h] at this; exact this)
  unfold Sup.arr
  simp only
  clear h
  go_enter Try.func34, Try.ntmps34
  go_wp2_with fail
  refine (VA.out _).mono ?_
  rintro e w1 ⟨rfl, b1⟩
  have B1 : Hid (Below w.heap.size w w1) := Lib.hid (((Below.refl _ _).alloc (Nat.le_refl _) _).trans (b1.mono (by simp)))
  clear b1
  go_wp2_with fail
  go_ret2
  exact ⟨rfl, B1.out⟩
end Go.Proofs.Ytbdlebengmbooaa
end S4

section S5
namespace Go.Proofs.Ytbdlebengmbooaa
open Go.RowKit Go.Maps
set_option maxHeartbeats 400000 in
theorem rdec_short (v : Value) (b : List UInt8) (w : World) (hv : Bytes w v b) (hl : b.length ≠ 512) : Calls Try.prog 45 #[v] w fun e w' => e = .returned (.tuple #[.agg zeroS.arr, .int .i64 61]) ∧ Below w.heap.size w w' := by
  obtain ⟨a, cap, rfl, hlc, hcm, hn, hc⟩ := hv
  unfold maxLen at hcm
  have hne : ((b.length : Int) != 512) = true := by rw [bne_iff_ne]; omega
  obtain ⟨n, hnn⟩ : ∃ n, n = b.length := ⟨_, rfl⟩
  rw [← hnn] at hne hlc ⊢
  clear hc hn hnn
  go_enter Try.func45, Try.ntmps45
  go_wp2_with fail
  refine bodyPost_ret (results_cell1 rfl _ _ ⟨w.heap.size, 0, none⟩ (.agg zeroS.arr) rfl (load_super _ _ zeroS ?_)) rfl ⟨rfl, ?_⟩
  · exact heap_alloc_new _ _
  · exact (Below.refl _ _).alloc (Nat.le_refl _) _
set_option maxRecDepth 100000 in
set_option maxHeartbeats 8000000 in
theorem rdec_full (v : Value) (b : List UInt8) (w : World) (hv : Bytes w v b) (hl : b.length = 512) : Calls Try.prog 45 #[v] w fun e w' => e = .returned (.tuple #[.agg (decR b).1.arr, .int .i64 (decR b).2]) ∧ Below w.heap.size w w' := by
  obtain ⟨RR, hRR⟩ : ∃ RR, RR = decR b := ⟨_, rfl⟩
  rw [← hRR]
  obtain ⟨⟨E0, E1, E2, E3, E4, E5, E6, E7, E8⟩, hs⟩ : ∃ s, s = seA b := ⟨_, rfl⟩
  have HR : Hid (RR = if vaB (Sup.mk E0 E1 E2 E3 E4 E5 E6 E7 E8) E2 = true ∧ layA (Sup.mk E0 E1 E2 E3 E4 E5 E6 E7 E8) = b then ((Sup.mk E0 E1 E2 E3 E4 E5 E6 E7 E8), 0) else (zeroS, 2)) := Lib.hid (by rw [hRR]; unfold decR; rw [if_neg (by rw [hl]; simp), ← hs])
  clear hRR
  have V := Lib.hid hv
  obtain ⟨a, cap, rfl, hlc, hcm, hn, hc⟩ := hv
  unfold maxLen at hcm
  rw [hl] at hlc V ⊢
  have HL := Lib.hid hl
  obtain ⟨X, hX⟩ : ∃ X, X = w.alloc (.cells #[.int .i64 0, .int .i64 0, .int .i64 0, .int .i64 0, .int .i64 0, .int .i64 0, .int .i64 0, .int .i64 0, .int .i64 0] 34) := ⟨_, rfl⟩
  obtain ⟨gr, hgr⟩ : ∃ g, g = w.heap.size := ⟨_, rfl⟩
  have BX : Hid (Below w.heap.size w X) := Lib.hid (by rw [hX]; exact (Below.refl _ _).alloc (Nat.le_refl _) _)
  have GX : Hid (X.heap[gr]? = some (.cells zeroS.arr 34 (0, 0)) ∧ gr = w.heap.size) := Lib.hid ⟨by rw [hgr, hX]; exact heap_alloc_new _ _, hgr⟩
  have BV : Hid (Bytes X (.slice a 512 cap) b) := Lib.hid (V.out.below BX.out)
  have G0 : Hid (∀ W, Bytes W (.slice a 512 cap) b → Calls Try.prog 63 #[.slice a 512 cap, .int .i64 ((8 : Nat) : Int), .int .i64 ((8 : Nat) : Int)] W fun e w' => e = .returned (.int .i64 E0) ∧ w' = W) := Lib.hid (fun W h => by have := rgot_any (.slice a 512 cap) b 8 8 W h HL.out (by decide); rw [show E0 = IntKind.i64.wrap (leN (subB b 8 8) : Int) from congrArg Sup.gen hs]; exact this)
  have G1 : Hid (∀ W, Bytes W (.slice a 512 cap) b → Calls Try.prog 63 #[.slice a 512 cap, .int .i64 ((16 : Nat) : Int), .int .i64 ((8 : Nat) : Int)] W fun e w' => e = .returned (.int .i64 E1) ∧ w' = W) := Lib.hid (fun W h => by have := rgot_any (.slice a 512 cap) b 16 8 W h HL.out (by decide); rw [show E1 = IntKind.i64.wrap (leN (subB b 16 8) : Int) from congrArg Sup.ep hs]; exact this)
  have G2 : Hid (∀ W, Bytes W (.slice a 512 cap) b → Calls Try.prog 63 #[.slice a 512 cap, .int .i64 ((24 : Nat) : Int), .int .i64 ((4 : Nat) : Int)] W fun e w' => e = .returned (.int .i64 E2) ∧ w' = W) := Lib.hid (fun W h => by have := rgot_any (.slice a 512 cap) b 24 4 W h HL.out (by decide); rw [show E2 = IntKind.i64.wrap (leN (subB b 24 4) : Int) from congrArg Sup.blk hs]; exact this)
  have G3 : Hid (∀ W, Bytes W (.slice a 512 cap) b → Calls Try.prog 63 #[.slice a 512 cap, .int .i64 ((28 : Nat) : Int), .int .i64 ((4 : Nat) : Int)] W fun e w' => e = .returned (.int .i64 E3) ∧ w' = W) := Lib.hid (fun W h => by have := rgot_any (.slice a 512 cap) b 28 4 W h HL.out (by decide); rw [show E3 = IntKind.i64.wrap (leN (subB b 28 4) : Int) from congrArg Sup.log hs]; exact this)
  have G4 : Hid (∀ W, Bytes W (.slice a 512 cap) b → Calls Try.prog 63 #[.slice a 512 cap, .int .i64 ((32 : Nat) : Int), .int .i64 ((8 : Nat) : Int)] W fun e w' => e = .returned (.int .i64 E4) ∧ w' = W) := Lib.hid (fun W h => by have := rgot_any (.slice a 512 cap) b 32 8 W h HL.out (by decide); rw [show E4 = IntKind.i64.wrap (leN (subB b 32 8) : Int) from congrArg Sup.st hs]; exact this)
  have G5 : Hid (∀ W, Bytes W (.slice a 512 cap) b → Calls Try.prog 63 #[.slice a 512 cap, .int .i64 ((40 : Nat) : Int), .int .i64 ((4 : Nat) : Int)] W fun e w' => e = .returned (.int .i64 E5) ∧ w' = W) := Lib.hid (fun W h => by have := rgot_any (.slice a 512 cap) b 40 4 W h HL.out (by decide); rw [show E5 = IntKind.i64.wrap (leN (subB b 40 4) : Int) from congrArg Sup.pl hs]; exact this)
  have G6 : Hid (∀ W, Bytes W (.slice a 512 cap) b → Calls Try.prog 63 #[.slice a 512 cap, .int .i64 ((44 : Nat) : Int), .int .i64 ((4 : Nat) : Int)] W fun e w' => e = .returned (.int .i64 E6) ∧ w' = W) := Lib.hid (fun W h => by have := rgot_any (.slice a 512 cap) b 44 4 W h HL.out (by decide); rw [show E6 = IntKind.i64.wrap (leN (subB b 44 4) : Int) from congrArg Sup.rt hs]; exact this)
  have G7 : Hid (∀ W, Bytes W (.slice a 512 cap) b → Calls Try.prog 63 #[.slice a 512 cap, .int .i64 ((48 : Nat) : Int), .int .i64 ((8 : Nat) : Int)] W fun e w' => e = .returned (.int .i64 E7) ∧ w' = W) := Lib.hid (fun W h => by have := rgot_any (.slice a 512 cap) b 48 8 W h HL.out (by decide); rw [show E7 = IntKind.i64.wrap (leN (subB b 48 8) : Int) from congrArg Sup.cnt hs]; exact this)
  have G8 : Hid (∀ W, Bytes W (.slice a 512 cap) b → Calls Try.prog 63 #[.slice a 512 cap, .int .i64 ((56 : Nat) : Int), .int .i64 ((8 : Nat) : Int)] W fun e w' => e = .returned (.int .i64 E8) ∧ w' = W) := Lib.hid (fun W h => by have := rgot_any (.slice a 512 cap) b 56 8 W h HL.out (by decide); rw [show E8 = IntKind.i64.wrap (leN (subB b 56 8) : Int) from congrArg Sup.ver hs]; exact this)
  have hX' := hX.symm
  have hgr' := hgr.symm
  clear hX hgr hl hn hc hs
  have BA : Hid (∀ ob, Bytes (X.alloc ob) (.slice a 512 cap) b) := Lib.hid (fun ob => BV.out.below ((Below.refl _ _).alloc (Nat.le_refl _) ob))
  have KS : Hid (∀ W : World, Below (X.alloc (.cells #[.int .i64 E0, .int .i64 E1, .int .i64 E2, .int .i64 E3, .int .i64 E4, .int .i64 E5, .int .i64 E6, .int .i64 E7, .int .i64 E8] 34)).heap.size (X.alloc (.cells #[.int .i64 E0, .int .i64 E1, .int .i64 E2, .int .i64 E3, .int .i64 E4, .int .i64 E5, .int .i64 E6, .int .i64 E7, .int .i64 E8] 34)) W → (W.cell? ⟨X.heap.size, 0, none⟩ = some (.int .i64 E0) ∧ W.cell? ⟨X.heap.size, 1, none⟩ = some (.int .i64 E1) ∧ W.cell? ⟨X.heap.size, 2, none⟩ = some (.int .i64 E2) ∧ W.cell? ⟨X.heap.size, 3, none⟩ = some (.int .i64 E3) ∧ W.cell? ⟨X.heap.size, 4, none⟩ = some (.int .i64 E4) ∧ W.cell? ⟨X.heap.size, 5, none⟩ = some (.int .i64 E5) ∧ W.cell? ⟨X.heap.size, 6, none⟩ = some (.int .i64 E6) ∧ W.cell? ⟨X.heap.size, 7, none⟩ = some (.int .i64 E7) ∧ W.cell? ⟨X.heap.size, 8, none⟩ = some (.int .i64 E8)) ∧ W.heap[X.heap.size]? = some (.cells (Sup.mk E0 E1 E2 E3 E4 E5 E6 E7 E8).arr 34 (0, 0)) ∧ W.heap[gr]? = some (.cells zeroS.arr 34 (0, 0)) ∧ Below w.heap.size w W ∧ Bytes W (.slice a 512 cap) b) := Lib.hid (fun W h => by
    have q1 : Below X.heap.size X (X.alloc (.cells #[.int .i64 E0, .int .i64 E1, .int .i64 E2, .int .i64 E3, .int .i64 E4, .int .i64 E5, .int .i64 E6, .int .i64 E7, .int .i64 E8] 34)) := (Below.refl _ _).alloc (Nat.le_refl _) _
    have q2 := q1.trans (h.mono q1.size)
    have q3 : W.heap[X.heap.size]? = some (.cells (Sup.mk E0 E1 E2 E3 E4 E5 E6 E7 E8).arr 34 (0, 0)) := (h.block _ (by simp)).trans (heap_alloc_new _ _)
    have q4 := BX.out.trans (q2.mono BX.out.size)
    exact ⟨sup_cells q3, q3, (q2.block gr (lt_of_heap GX.out.1)).trans GX.out.1, q4, V.out.below q4⟩)
  go_enter Try.func45, Try.ntmps45
  cases hv : vaB (Sup.mk E0 E1 E2 E3 E4 E5 E6 E7 E8) E2 with
  | false =>
    have EN : Hid (∀ W, Calls Try.prog 34 #[.agg #[.int .i64 E0, .int .i64 E1, .int .i64 E2, .int .i64 E3, .int .i64 E4, .int .i64 E5, .int .i64 E6, .int .i64 E7, .int .i64 E8]] W fun e w' => e = .returned (.tuple #[.slice none 0 0, .int .i64 1]) ∧ Below W.heap.size W w') := Lib.hid (fun W => renc_no (Sup.mk E0 E1 E2 E3 E4 E5 E6 E7 E8) W hv)
    have HE : Hid (RR = (zeroS, 2)) := Lib.hid (by rw [HR.out, hv, if_neg (by simp)])
    clear hv HR
    go_wp2_with fail
    refine (G0.out _ BV.out).mono ?_
    rintro e w9 ⟨rfl, hw9⟩
    obtain rfl := hw9.symm
    clear hw9 G0
    go_wp2_with fail
    refine (G1.out _ BV.out).mono ?_
    rintro e w9 ⟨rfl, hw9⟩
    obtain rfl := hw9.symm
    clear hw9 G1
    go_wp2_with fail
    refine (G2.out _ BV.out).mono ?_
    rintro e w9 ⟨rfl, hw9⟩
    obtain rfl := hw9.symm
    clear hw9 G2
    go_wp2_with fail
    refine (G3.out _ BV.out).mono ?_
    rintro e w9 ⟨rfl, hw9⟩
    obtain rfl := hw9.symm
    clear hw9 G3
    go_wp2_with fail
    refine (G6.out _ BV.out).mono ?_
    rintro e w9 ⟨rfl, hw9⟩
    obtain rfl := hw9.symm
    clear hw9 G6
    go_wp2_with fail
    refine (G7.out _ BV.out).mono ?_
    rintro e w9 ⟨rfl, hw9⟩
    obtain rfl := hw9.symm
    clear hw9 G7
    go_wp2_with fail
    refine (G8.out _ BV.out).mono ?_
    rintro e w9 ⟨rfl, hw9⟩
    obtain rfl := hw9.symm
    clear hw9 G8
    go_wp2_with fail
    refine (G4.out _ (BA.out _)).mono ?_
    rintro e w9 ⟨rfl, rfl⟩
    clear G4
    go_wp2_with fail
    refine (G5.out _ (BA.out _)).mono ?_
    rintro e w9 ⟨rfl, rfl⟩
    clear G5
    go_wp2_with fail
    refine (EN.out _).mono ?_
    rintro e w2 ⟨rfl, b2⟩
    have B2 := Lib.hid (KS.out w2 b2).2
    clear b2 EN KS hX' hgr'
    go_wp2_with (first | (refine wpList_store_row rfl 34 (.tmp 2) (.tmp 46) rfl gr zeroS.arr rfl rfl 34 zeroS.arr B2.out.2.1 size_super rfl (arr_one _) ?_))
    rw [HE.out]
    refine bodyPost_ret (results_cell1 rfl _ _ ⟨gr, 0, none⟩ (.agg zeroS.arr) rfl (load_super _ _ zeroS (setRow_heap _ _ _ _ _ _ B2.out.2.1))) rfl ⟨rfl, ?_⟩
    exact below_setRow B2.out.2.2.1 (by rw [GX.out.2]; exact Nat.le_refl _) _
  | true =>
    have EN : Hid (∀ W, Calls Try.prog 34 #[.agg #[.int .i64 E0, .int .i64 E1, .int .i64 E2, .int .i64 E3, .int .i64 E4, .int .i64 E5, .int .i64 E6, .int .i64 E7, .int .i64 E8]] W fun e w' => ∃ gb, e = .returned (.tuple #[.slice (some ⟨gb, 0, none⟩) 512 512, .int .i64 0]) ∧ Own W.heap.size w' (.slice (some ⟨gb, 0, none⟩) 512 512) (layA (Sup.mk E0 E1 E2 E3 E4 E5 E6 E7 E8)) ∧ Below W.heap.size W w') := Lib.hid (fun W => renc_yes (Sup.mk E0 E1 E2 E3 E4 E5 E6 E7 E8) W hv)
    by_cases hle : layA (Sup.mk E0 E1 E2 E3 E4 E5 E6 E7 E8) = b
    · have HE : Hid (RR = ((Sup.mk E0 E1 E2 E3 E4 E5 E6 E7 E8), 0)) := Lib.hid (by rw [HR.out, hv, if_pos ⟨rfl, hle⟩])
      obtain ⟨T1, hT1⟩ : ∃ T, T = txt (layA (Sup.mk E0 E1 E2 E3 E4 E5 E6 E7 E8)) := ⟨_, rfl⟩
      obtain ⟨T2, hT2⟩ : ∃ T, T = txt b := ⟨_, rfl⟩
      have tb : (T1.toList == T2.toList) = true := by rw [hT1, hT2, txt_beq, decide_eq_true hle]
      have HT := Lib.hid (And.intro hT1 hT2)
      clear hv HR hle hT1 hT2
      go_wp2_with fail
      refine (G0.out _ BV.out).mono ?_
      rintro e w9 ⟨rfl, hw9⟩
      obtain rfl := hw9.symm
      clear hw9 G0
      go_wp2_with fail
      refine (G1.out _ BV.out).mono ?_
      rintro e w9 ⟨rfl, hw9⟩
      obtain rfl := hw9.symm
      clear hw9 G1
      go_wp2_with fail
      refine (G2.out _ BV.out).mono ?_
      rintro e w9 ⟨rfl, hw9⟩
      obtain rfl := hw9.symm
      clear hw9 G2
      go_wp2_with fail
      refine (G3.out _ BV.out).mono ?_
      rintro e w9 ⟨rfl, hw9⟩
      obtain rfl := hw9.symm
      clear hw9 G3
      go_wp2_with fail
      refine (G6.out _ BV.out).mono ?_
      rintro e w9 ⟨rfl, hw9⟩
      obtain rfl := hw9.symm
      clear hw9 G6
      go_wp2_with fail
      refine (G7.out _ BV.out).mono ?_
      rintro e w9 ⟨rfl, hw9⟩
      obtain rfl := hw9.symm
      clear hw9 G7
      go_wp2_with fail
      refine (G8.out _ BV.out).mono ?_
      rintro e w9 ⟨rfl, hw9⟩
      obtain rfl := hw9.symm
      clear hw9 G8
      go_wp2_with fail
      refine (G4.out _ (BA.out _)).mono ?_
      rintro e w9 ⟨rfl, rfl⟩
      clear G4
      go_wp2_with fail
      refine (G5.out _ (BA.out _)).mono ?_
      rintro e w9 ⟨rfl, rfl⟩
      clear G5
      go_wp2_with fail
      refine (EN.out _).mono ?_
      rintro e w2 ⟨gb, rfl, o2, b2⟩
      obtain ⟨⟨y0, y1, y2, y3, y4, y5, y6, y7, y8⟩, b2'⟩ := KS.out w2 b2
      have B2 := Lib.hid b2'
      have cv1 : (convert 35 9 (.slice (some ⟨gb, 0, none⟩) 512 512)).run Try.prog w2 = .ok (.string T1) w2 := by rw [HT.out.1]; exact convT o2.bytes
      have cv2 : (convert 35 9 (.slice a 512 cap)).run Try.prog w2 = .ok (.string T2) w2 := by rw [HT.out.2]; exact convT B2.out.2.2.2
      clear b2 b2' o2 EN KS hX' hgr'
      go_wp2_with (first | (refine wpList_load_row rfl 34 (.tmp 4) rfl X.heap.size rfl 34 (Sup.mk E0 E1 E2 E3 E4 E5 E6 E7 E8).arr (0, 0) _ B2.out.1 Try.underlying34 rfl size_super ?_) | (refine wpList_store_row rfl 34 (.tmp 2) (.tmp 47) rfl gr (Sup.mk E0 E1 E2 E3 E4 E5 E6 E7 E8).arr rfl rfl 34 zeroS.arr B2.out.2.1 size_super rfl (arr_one _) ?_))
      rw [HE.out]
      refine bodyPost_ret (results_cell1 rfl _ _ ⟨gr, 0, none⟩ (.agg (Sup.mk E0 E1 E2 E3 E4 E5 E6 E7 E8).arr) rfl (load_super _ _ (Sup.mk E0 E1 E2 E3 E4 E5 E6 E7 E8) (setRow_heap _ _ _ _ _ _ B2.out.2.1))) rfl ⟨rfl, ?_⟩
      exact below_setRow B2.out.2.2.1 (by rw [GX.out.2]; exact Nat.le_refl _) _
    · have HE : Hid (RR = (zeroS, 2)) := Lib.hid (by rw [HR.out, if_neg (fun h => hle h.2)])
      obtain ⟨T1, hT1⟩ : ∃ T, T = txt (layA (Sup.mk E0 E1 E2 E3 E4 E5 E6 E7 E8)) := ⟨_, rfl⟩
      obtain ⟨T2, hT2⟩ : ∃ T, T = txt b := ⟨_, rfl⟩
      have tb : (T1.toList == T2.toList) = false := by rw [hT1, hT2, txt_beq, decide_eq_false hle]
      have HT := Lib.hid (And.intro hT1 hT2)
      clear hv HR hle hT1 hT2
      go_wp2_with fail
      refine (G0.out _ BV.out).mono ?_
      rintro e w9 ⟨rfl, hw9⟩
      obtain rfl := hw9.symm
      clear hw9 G0
      go_wp2_with fail
      refine (G1.out _ BV.out).mono ?_
      rintro e w9 ⟨rfl, hw9⟩
      obtain rfl := hw9.symm
      clear hw9 G1
      go_wp2_with fail
      refine (G2.out _ BV.out).mono ?_
      rintro e w9 ⟨rfl, hw9⟩
      obtain rfl := hw9.symm
      clear hw9 G2
      go_wp2_with fail
      refine (G3.out _ BV.out).mono ?_
      rintro e w9 ⟨rfl, hw9⟩
      obtain rfl := hw9.symm
      clear hw9 G3
      go_wp2_with fail
      refine (G6.out _ BV.out).mono ?_
      rintro e w9 ⟨rfl, hw9⟩
      obtain rfl := hw9.symm
      clear hw9 G6
      go_wp2_with fail
      refine (G7.out _ BV.out).mono ?_
      rintro e w9 ⟨rfl, hw9⟩
      obtain rfl := hw9.symm
      clear hw9 G7
      go_wp2_with fail
      refine (G8.out _ BV.out).mono ?_
      rintro e w9 ⟨rfl, hw9⟩
      obtain rfl := hw9.symm
      clear hw9 G8
      go_wp2_with fail
      refine (G4.out _ (BA.out _)).mono ?_
      rintro e w9 ⟨rfl, rfl⟩
      clear G4
      go_wp2_with fail
      refine (G5.out _ (BA.out _)).mono ?_
      rintro e w9 ⟨rfl, rfl⟩
      clear G5
      go_wp2_with fail
      refine (EN.out _).mono ?_
      rintro e w2 ⟨gb, rfl, o2, b2⟩
      have B2 := Lib.hid (KS.out w2 b2).2
      have cv1 : (convert 35 9 (.slice (some ⟨gb, 0, none⟩) 512 512)).run Try.prog w2 = .ok (.string T1) w2 := by rw [HT.out.1]; exact convT o2.bytes
      have cv2 : (convert 35 9 (.slice a 512 cap)).run Try.prog w2 = .ok (.string T2) w2 := by rw [HT.out.2]; exact convT B2.out.2.2.2
      clear b2 o2 EN KS hX' hgr'
      go_wp2_with (first | (refine wpList_store_row rfl 34 (.tmp 2) (.tmp 46) rfl gr zeroS.arr rfl rfl 34 zeroS.arr B2.out.2.1 size_super rfl (arr_one _) ?_))
      rw [HE.out]
      refine bodyPost_ret (results_cell1 rfl _ _ ⟨gr, 0, none⟩ (.agg zeroS.arr) rfl (load_super _ _ zeroS (setRow_heap _ _ _ _ _ _ B2.out.2.1))) rfl ⟨rfl, ?_⟩
      exact below_setRow B2.out.2.2.1 (by rw [GX.out.2]; exact Nat.le_refl _) _
theorem rdec_any (v : Value) (b : List UInt8) (w : World) (hv : Bytes w v b) : Calls Try.prog 45 #[v] w fun e w' => e = .returned (.tuple #[.agg (decR b).1.arr, .int .i64 (decR b).2]) ∧ Below w.heap.size w w' := by
  by_cases hl : b.length = 512
  · exact rdec_full v b w hv hl
  · have h := rdec_short v b w hv hl
    unfold decR
    rw [if_pos hl]
    exact h
end Go.Proofs.Ytbdlebengmbooaa
end S5
