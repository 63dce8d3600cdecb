/-
  numbered.
-/
import Derived.Test.YtbdlebengmbooaaAnV
import Derived.BigQuiet
import Derived.Lib.QuietBelow
namespace Go.Proofs.Ytbdlebengmbooaa
open Go.RowKit Go.Maps Go.Sort
set_option maxRecDepth 100000 in
set_option maxHeartbeats 4000000 in
theorem num0 (xgen xep xblk xlog xst xpl xrt xcnt xver : Int) (w : World) (k0 : cntB xgen = false) : Calls Try.prog 47 #[.agg #[.int .i64 xgen, .int .i64 xep, .int .i64 xblk, .int .i64 xlog, .int .i64 xst, .int .i64 xpl, .int .i64 xrt, .int .i64 xcnt, .int .i64 xver]] w fun e w' => e = .returned (.bool false) ∧ Below w.heap.size w w' := by
  obtain ⟨X, hX⟩ : ∃ X, X = w.alloc (.cells #[.int .i64 xgen, .int .i64 xep, .int .i64 xblk, .int .i64 xlog, .int .i64 xst, .int .i64 xpl, .int .i64 xrt, .int .i64 xcnt, .int .i64 xver] 34) := ⟨_, rfl⟩
  obtain ⟨gx, hgx⟩ : ∃ gx, gx = w.heap.size := ⟨_, rfl⟩
  have BX : Hid (Below w.heap.size w X) := Lib.hid (by rw [hX]; exact (Below.refl _ _).alloc (Nat.le_refl _) _)
  have GX : X.heap[gx]? = some (.cells #[.int .i64 xgen, .int .i64 xep, .int .i64 xblk, .int .i64 xlog, .int .i64 xst, .int .i64 xpl, .int .i64 xrt, .int .i64 xcnt, .int .i64 xver] 34 (0, 0)) := by rw [hgx, hX]; exact heap_alloc_new _ _
  have r0 : ∀ (dq : Nat) (os : Array Obj), (grow (redrawn X dq) os).cell? ⟨gx, 0, none⟩ = some (.int .i64 xgen) := fun dq os => cell_regrown (by rw [cell_of_row X gx _ _ _ _ GX]; rfl) dq os
  have S0 : Hid (∀ (dq : Nat) (os : Array Obj), Calls Try.prog 64 #[.int .i64 xgen] (grow (redrawn X dq) os) fun e w'' => e = .returned (.bool false) ∧ ∃ p : Regrown, w'' = grow (redrawn X p.d) p.os) := Lib.hid (fun dq os => by
    refine (counted_any xgen _).mono ?_
    rintro e w' ⟨rfl, rfl⟩
    exact ⟨by rw [k0], ⟨dq, os⟩, rfl⟩)
  have hX' := hX.symm
  have hgx' := hgx.symm
  clear hX hgx GX k0
  go_enter Try.func47, Try.ntmps47
  go_wp2_with fail
  refine wp_region_quiet_below (by kernel_rfl) (by kernel_rfl) ?_
  repeat (go_big_quiet_step (first | with_reducible exact S0.out _ _))
  refine wpQuiet_nil ?_
  intro _ hw'
  obtain ⟨⟨dq, osq⟩, hw''⟩ := hw'
  subst hw''
  go_wp2_with fail
  go_ret
  exact ⟨rfl, BX.out.trans ((below_regrown X dq osq).mono BX.out.size)⟩
set_option maxRecDepth 100000 in
set_option maxHeartbeats 4000000 in
theorem num1 (xgen xep xblk xlog xst xpl xrt xcnt xver : Int) (w : World) (k0 : cntB xgen = true) (k1 : cntB xep = false) : Calls Try.prog 47 #[.agg #[.int .i64 xgen, .int .i64 xep, .int .i64 xblk, .int .i64 xlog, .int .i64 xst, .int .i64 xpl, .int .i64 xrt, .int .i64 xcnt, .int .i64 xver]] w fun e w' => e = .returned (.bool false) ∧ Below w.heap.size w w' := by
  obtain ⟨X, hX⟩ : ∃ X, X = w.alloc (.cells #[.int .i64 xgen, .int .i64 xep, .int .i64 xblk, .int .i64 xlog, .int .i64 xst, .int .i64 xpl, .int .i64 xrt, .int .i64 xcnt, .int .i64 xver] 34) := ⟨_, rfl⟩
  obtain ⟨gx, hgx⟩ : ∃ gx, gx = w.heap.size := ⟨_, rfl⟩
  have BX : Hid (Below w.heap.size w X) := Lib.hid (by rw [hX]; exact (Below.refl _ _).alloc (Nat.le_refl _) _)
  have GX : X.heap[gx]? = some (.cells #[.int .i64 xgen, .int .i64 xep, .int .i64 xblk, .int .i64 xlog, .int .i64 xst, .int .i64 xpl, .int .i64 xrt, .int .i64 xcnt, .int .i64 xver] 34 (0, 0)) := by rw [hgx, hX]; exact heap_alloc_new _ _
  have r0 : ∀ (dq : Nat) (os : Array Obj), (grow (redrawn X dq) os).cell? ⟨gx, 0, none⟩ = some (.int .i64 xgen) := fun dq os => cell_regrown (by rw [cell_of_row X gx _ _ _ _ GX]; rfl) dq os
  have r1 : ∀ (dq : Nat) (os : Array Obj), (grow (redrawn X dq) os).cell? ⟨gx, 1, none⟩ = some (.int .i64 xep) := fun dq os => cell_regrown (by rw [cell_of_row X gx _ _ _ _ GX]; rfl) dq os
  have S0 : Hid (∀ (dq : Nat) (os : Array Obj), Calls Try.prog 64 #[.int .i64 xgen] (grow (redrawn X dq) os) fun e w'' => e = .returned (.bool true) ∧ ∃ p : Regrown, w'' = grow (redrawn X p.d) p.os) := Lib.hid (fun dq os => by
    refine (counted_any xgen _).mono ?_
    rintro e w' ⟨rfl, rfl⟩
    exact ⟨by rw [k0], ⟨dq, os⟩, rfl⟩)
  have S1 : Hid (∀ (dq : Nat) (os : Array Obj), Calls Try.prog 64 #[.int .i64 xep] (grow (redrawn X dq) os) fun e w'' => e = .returned (.bool false) ∧ ∃ p : Regrown, w'' = grow (redrawn X p.d) p.os) := Lib.hid (fun dq os => by
    refine (counted_any xep _).mono ?_
    rintro e w' ⟨rfl, rfl⟩
    exact ⟨by rw [k1], ⟨dq, os⟩, rfl⟩)
  have hX' := hX.symm
  have hgx' := hgx.symm
  clear hX hgx GX k0 k1
  go_enter Try.func47, Try.ntmps47
  go_wp2_with fail
  refine wp_region_quiet_below (by kernel_rfl) (by kernel_rfl) ?_
  repeat (go_big_quiet_step (first | with_reducible exact S0.out _ _ | with_reducible exact S1.out _ _))
  refine wpQuiet_nil ?_
  intro _ hw'
  obtain ⟨⟨dq, osq⟩, hw''⟩ := hw'
  subst hw''
  go_wp2_with fail
  go_ret
  exact ⟨rfl, BX.out.trans ((below_regrown X dq osq).mono BX.out.size)⟩
set_option maxRecDepth 100000 in
set_option maxHeartbeats 4000000 in
theorem num2 (xgen xep xblk xlog xst xpl xrt xcnt xver : Int) (w : World) (k0 : cntB xgen = true) (k1 : cntB xep = true) (k2 : cntB xst = false) : Calls Try.prog 47 #[.agg #[.int .i64 xgen, .int .i64 xep, .int .i64 xblk, .int .i64 xlog, .int .i64 xst, .int .i64 xpl, .int .i64 xrt, .int .i64 xcnt, .int .i64 xver]] w fun e w' => e = .returned (.bool false) ∧ Below w.heap.size w w' := by
  obtain ⟨X, hX⟩ : ∃ X, X = w.alloc (.cells #[.int .i64 xgen, .int .i64 xep, .int .i64 xblk, .int .i64 xlog, .int .i64 xst, .int .i64 xpl, .int .i64 xrt, .int .i64 xcnt, .int .i64 xver] 34) := ⟨_, rfl⟩
  obtain ⟨gx, hgx⟩ : ∃ gx, gx = w.heap.size := ⟨_, rfl⟩
  have BX : Hid (Below w.heap.size w X) := Lib.hid (by rw [hX]; exact (Below.refl _ _).alloc (Nat.le_refl _) _)
  have GX : X.heap[gx]? = some (.cells #[.int .i64 xgen, .int .i64 xep, .int .i64 xblk, .int .i64 xlog, .int .i64 xst, .int .i64 xpl, .int .i64 xrt, .int .i64 xcnt, .int .i64 xver] 34 (0, 0)) := by rw [hgx, hX]; exact heap_alloc_new _ _
  have r0 : ∀ (dq : Nat) (os : Array Obj), (grow (redrawn X dq) os).cell? ⟨gx, 0, none⟩ = some (.int .i64 xgen) := fun dq os => cell_regrown (by rw [cell_of_row X gx _ _ _ _ GX]; rfl) dq os
  have r1 : ∀ (dq : Nat) (os : Array Obj), (grow (redrawn X dq) os).cell? ⟨gx, 1, none⟩ = some (.int .i64 xep) := fun dq os => cell_regrown (by rw [cell_of_row X gx _ _ _ _ GX]; rfl) dq os
  have r4 : ∀ (dq : Nat) (os : Array Obj), (grow (redrawn X dq) os).cell? ⟨gx, 4, none⟩ = some (.int .i64 xst) := fun dq os => cell_regrown (by rw [cell_of_row X gx _ _ _ _ GX]; rfl) dq os
  have S0 : Hid (∀ (dq : Nat) (os : Array Obj), Calls Try.prog 64 #[.int .i64 xgen] (grow (redrawn X dq) os) fun e w'' => e = .returned (.bool true) ∧ ∃ p : Regrown, w'' = grow (redrawn X p.d) p.os) := Lib.hid (fun dq os => by
    refine (counted_any xgen _).mono ?_
    rintro e w' ⟨rfl, rfl⟩
    exact ⟨by rw [k0], ⟨dq, os⟩, rfl⟩)
  have S1 : Hid (∀ (dq : Nat) (os : Array Obj), Calls Try.prog 64 #[.int .i64 xep] (grow (redrawn X dq) os) fun e w'' => e = .returned (.bool true) ∧ ∃ p : Regrown, w'' = grow (redrawn X p.d) p.os) := Lib.hid (fun dq os => by
    refine (counted_any xep _).mono ?_
    rintro e w' ⟨rfl, rfl⟩
    exact ⟨by rw [k1], ⟨dq, os⟩, rfl⟩)
  have S2 : Hid (∀ (dq : Nat) (os : Array Obj), Calls Try.prog 64 #[.int .i64 xst] (grow (redrawn X dq) os) fun e w'' => e = .returned (.bool false) ∧ ∃ p : Regrown, w'' = grow (redrawn X p.d) p.os) := Lib.hid (fun dq os => by
    refine (counted_any xst _).mono ?_
    rintro e w' ⟨rfl, rfl⟩
    exact ⟨by rw [k2], ⟨dq, os⟩, rfl⟩)
  have hX' := hX.symm
  have hgx' := hgx.symm
  clear hX hgx GX k0 k1 k2
  go_enter Try.func47, Try.ntmps47
  go_wp2_with fail
  refine wp_region_quiet_below (by kernel_rfl) (by kernel_rfl) ?_
  repeat (go_big_quiet_step (first | with_reducible exact S0.out _ _ | with_reducible exact S1.out _ _ | with_reducible exact S2.out _ _))
  refine wpQuiet_nil ?_
  intro _ hw'
  obtain ⟨⟨dq, osq⟩, hw''⟩ := hw'
  subst hw''
  go_wp2_with fail
  go_ret
  exact ⟨rfl, BX.out.trans ((below_regrown X dq osq).mono BX.out.size)⟩
set_option maxRecDepth 100000 in
set_option maxHeartbeats 4000000 in
theorem num3 (xgen xep xblk xlog xst xpl xrt xcnt xver m : Int) (w : World) (hl1 : 8 ≤ xlog) (hl2 : xlog ≤ 512) (hs1 : 1 ≤ xst) (hs2 : xst ≤ 1152921500311879680) (hm : (xst - 1).tmod xlog = m) (k0 : cntB xgen = true) (k1 : cntB xep = true) (k2 : cntB xst = true) (f0 : (xpl == m) = false) : Calls Try.prog 47 #[.agg #[.int .i64 xgen, .int .i64 xep, .int .i64 xblk, .int .i64 xlog, .int .i64 xst, .int .i64 xpl, .int .i64 xrt, .int .i64 xcnt, .int .i64 xver]] w fun e w' => e = .returned (.bool false) ∧ Below w.heap.size w w' := by
  obtain ⟨X, hX⟩ : ∃ X, X = w.alloc (.cells #[.int .i64 xgen, .int .i64 xep, .int .i64 xblk, .int .i64 xlog, .int .i64 xst, .int .i64 xpl, .int .i64 xrt, .int .i64 xcnt, .int .i64 xver] 34) := ⟨_, rfl⟩
  obtain ⟨gx, hgx⟩ : ∃ gx, gx = w.heap.size := ⟨_, rfl⟩
  have BX : Hid (Below w.heap.size w X) := Lib.hid (by rw [hX]; exact (Below.refl _ _).alloc (Nat.le_refl _) _)
  have GX : X.heap[gx]? = some (.cells #[.int .i64 xgen, .int .i64 xep, .int .i64 xblk, .int .i64 xlog, .int .i64 xst, .int .i64 xpl, .int .i64 xrt, .int .i64 xcnt, .int .i64 xver] 34 (0, 0)) := by rw [hgx, hX]; exact heap_alloc_new _ _
  have r0 : ∀ (dq : Nat) (os : Array Obj), (grow (redrawn X dq) os).cell? ⟨gx, 0, none⟩ = some (.int .i64 xgen) := fun dq os => cell_regrown (by rw [cell_of_row X gx _ _ _ _ GX]; rfl) dq os
  have r1 : ∀ (dq : Nat) (os : Array Obj), (grow (redrawn X dq) os).cell? ⟨gx, 1, none⟩ = some (.int .i64 xep) := fun dq os => cell_regrown (by rw [cell_of_row X gx _ _ _ _ GX]; rfl) dq os
  have r3 : ∀ (dq : Nat) (os : Array Obj), (grow (redrawn X dq) os).cell? ⟨gx, 3, none⟩ = some (.int .i64 xlog) := fun dq os => cell_regrown (by rw [cell_of_row X gx _ _ _ _ GX]; rfl) dq os
  have r4 : ∀ (dq : Nat) (os : Array Obj), (grow (redrawn X dq) os).cell? ⟨gx, 4, none⟩ = some (.int .i64 xst) := fun dq os => cell_regrown (by rw [cell_of_row X gx _ _ _ _ GX]; rfl) dq os
  have r5 : ∀ (dq : Nat) (os : Array Obj), (grow (redrawn X dq) os).cell? ⟨gx, 5, none⟩ = some (.int .i64 xpl) := fun dq os => cell_regrown (by rw [cell_of_row X gx _ _ _ _ GX]; rfl) dq os
  have r8 : ∀ (dq : Nat) (os : Array Obj), (grow (redrawn X dq) os).cell? ⟨gx, 8, none⟩ = some (.int .i64 xver) := fun dq os => cell_regrown (by rw [cell_of_row X gx _ _ _ _ GX]; rfl) dq os
  have S0 : Hid (∀ (dq : Nat) (os : Array Obj), Calls Try.prog 64 #[.int .i64 xgen] (grow (redrawn X dq) os) fun e w'' => e = .returned (.bool true) ∧ ∃ p : Regrown, w'' = grow (redrawn X p.d) p.os) := Lib.hid (fun dq os => by
    refine (counted_any xgen _).mono ?_
    rintro e w' ⟨rfl, rfl⟩
    exact ⟨by rw [k0], ⟨dq, os⟩, rfl⟩)
  have S1 : Hid (∀ (dq : Nat) (os : Array Obj), Calls Try.prog 64 #[.int .i64 xep] (grow (redrawn X dq) os) fun e w'' => e = .returned (.bool true) ∧ ∃ p : Regrown, w'' = grow (redrawn X p.d) p.os) := Lib.hid (fun dq os => by
    refine (counted_any xep _).mono ?_
    rintro e w' ⟨rfl, rfl⟩
    exact ⟨by rw [k1], ⟨dq, os⟩, rfl⟩)
  have S2 : Hid (∀ (dq : Nat) (os : Array Obj), Calls Try.prog 64 #[.int .i64 xst] (grow (redrawn X dq) os) fun e w'' => e = .returned (.bool true) ∧ ∃ p : Regrown, w'' = grow (redrawn X p.d) p.os) := Lib.hid (fun dq os => by
    refine (counted_any xst _).mono ?_
    rintro e w' ⟨rfl, rfl⟩
    exact ⟨by rw [k2], ⟨dq, os⟩, rfl⟩)
  have hX' := hX.symm
  have hgx' := hgx.symm
  have hn0 : ¬ xlog = 0 := by omega
  clear hX hgx GX k0 k1 k2
  go_enter Try.func47, Try.ntmps47
  go_wp2_with fail
  refine wp_region_quiet_below (by kernel_rfl) (by kernel_rfl) ?_
  repeat (go_big_quiet_step (first | with_reducible exact S0.out _ _ | with_reducible exact S1.out _ _ | with_reducible exact S2.out _ _))
  refine wpQuiet_nil ?_
  intro _ hw'
  obtain ⟨⟨dq, osq⟩, hw''⟩ := hw'
  subst hw''
  go_wp2_with fail
  go_ret
  exact ⟨rfl, BX.out.trans ((below_regrown X dq osq).mono BX.out.size)⟩
set_option maxRecDepth 100000 in
set_option maxHeartbeats 4000000 in
theorem num4 (xgen xep xblk xlog xst xpl xrt xcnt xver m : Int) (w : World) (hl1 : 8 ≤ xlog) (hl2 : xlog ≤ 512) (hs1 : 1 ≤ xst) (hs2 : xst ≤ 1152921500311879680) (hm : (xst - 1).tmod xlog = m) (k0 : cntB xgen = true) (k1 : cntB xep = true) (k2 : cntB xst = true) (f0 : (xpl == m) = true) (f1 : decide (xver ≥ 0) = false) : Calls Try.prog 47 #[.agg #[.int .i64 xgen, .int .i64 xep, .int .i64 xblk, .int .i64 xlog, .int .i64 xst, .int .i64 xpl, .int .i64 xrt, .int .i64 xcnt, .int .i64 xver]] w fun e w' => e = .returned (.bool false) ∧ Below w.heap.size w w' := by
  obtain ⟨X, hX⟩ : ∃ X, X = w.alloc (.cells #[.int .i64 xgen, .int .i64 xep, .int .i64 xblk, .int .i64 xlog, .int .i64 xst, .int .i64 xpl, .int .i64 xrt, .int .i64 xcnt, .int .i64 xver] 34) := ⟨_, rfl⟩
  obtain ⟨gx, hgx⟩ : ∃ gx, gx = w.heap.size := ⟨_, rfl⟩
  have BX : Hid (Below w.heap.size w X) := Lib.hid (by rw [hX]; exact (Below.refl _ _).alloc (Nat.le_refl _) _)
  have GX : X.heap[gx]? = some (.cells #[.int .i64 xgen, .int .i64 xep, .int .i64 xblk, .int .i64 xlog, .int .i64 xst, .int .i64 xpl, .int .i64 xrt, .int .i64 xcnt, .int .i64 xver] 34 (0, 0)) := by rw [hgx, hX]; exact heap_alloc_new _ _
  have r0 : ∀ (dq : Nat) (os : Array Obj), (grow (redrawn X dq) os).cell? ⟨gx, 0, none⟩ = some (.int .i64 xgen) := fun dq os => cell_regrown (by rw [cell_of_row X gx _ _ _ _ GX]; rfl) dq os
  have r1 : ∀ (dq : Nat) (os : Array Obj), (grow (redrawn X dq) os).cell? ⟨gx, 1, none⟩ = some (.int .i64 xep) := fun dq os => cell_regrown (by rw [cell_of_row X gx _ _ _ _ GX]; rfl) dq os
  have r3 : ∀ (dq : Nat) (os : Array Obj), (grow (redrawn X dq) os).cell? ⟨gx, 3, none⟩ = some (.int .i64 xlog) := fun dq os => cell_regrown (by rw [cell_of_row X gx _ _ _ _ GX]; rfl) dq os
  have r4 : ∀ (dq : Nat) (os : Array Obj), (grow (redrawn X dq) os).cell? ⟨gx, 4, none⟩ = some (.int .i64 xst) := fun dq os => cell_regrown (by rw [cell_of_row X gx _ _ _ _ GX]; rfl) dq os
  have r5 : ∀ (dq : Nat) (os : Array Obj), (grow (redrawn X dq) os).cell? ⟨gx, 5, none⟩ = some (.int .i64 xpl) := fun dq os => cell_regrown (by rw [cell_of_row X gx _ _ _ _ GX]; rfl) dq os
  have r8 : ∀ (dq : Nat) (os : Array Obj), (grow (redrawn X dq) os).cell? ⟨gx, 8, none⟩ = some (.int .i64 xver) := fun dq os => cell_regrown (by rw [cell_of_row X gx _ _ _ _ GX]; rfl) dq os
  have S0 : Hid (∀ (dq : Nat) (os : Array Obj), Calls Try.prog 64 #[.int .i64 xgen] (grow (redrawn X dq) os) fun e w'' => e = .returned (.bool true) ∧ ∃ p : Regrown, w'' = grow (redrawn X p.d) p.os) := Lib.hid (fun dq os => by
    refine (counted_any xgen _).mono ?_
    rintro e w' ⟨rfl, rfl⟩
    exact ⟨by rw [k0], ⟨dq, os⟩, rfl⟩)
  have S1 : Hid (∀ (dq : Nat) (os : Array Obj), Calls Try.prog 64 #[.int .i64 xep] (grow (redrawn X dq) os) fun e w'' => e = .returned (.bool true) ∧ ∃ p : Regrown, w'' = grow (redrawn X p.d) p.os) := Lib.hid (fun dq os => by
    refine (counted_any xep _).mono ?_
    rintro e w' ⟨rfl, rfl⟩
    exact ⟨by rw [k1], ⟨dq, os⟩, rfl⟩)
  have S2 : Hid (∀ (dq : Nat) (os : Array Obj), Calls Try.prog 64 #[.int .i64 xst] (grow (redrawn X dq) os) fun e w'' => e = .returned (.bool true) ∧ ∃ p : Regrown, w'' = grow (redrawn X p.d) p.os) := Lib.hid (fun dq os => by
    refine (counted_any xst _).mono ?_
    rintro e w' ⟨rfl, rfl⟩
    exact ⟨by rw [k2], ⟨dq, os⟩, rfl⟩)
  have hX' := hX.symm
  have hgx' := hgx.symm
  have hn0 : ¬ xlog = 0 := by omega
  clear hX hgx GX k0 k1 k2
  go_enter Try.func47, Try.ntmps47
  go_wp2_with fail
  refine wp_region_quiet_below (by kernel_rfl) (by kernel_rfl) ?_
  repeat (go_big_quiet_step (first | with_reducible exact S0.out _ _ | with_reducible exact S1.out _ _ | with_reducible exact S2.out _ _))
  refine wpQuiet_nil ?_
  intro _ hw'
  obtain ⟨⟨dq, osq⟩, hw''⟩ := hw'
  subst hw''
  go_wp2_with fail
  go_ret
  exact ⟨rfl, BX.out.trans ((below_regrown X dq osq).mono BX.out.size)⟩
set_option maxRecDepth 100000 in
set_option maxHeartbeats 4000000 in
theorem num5 (xgen xep xblk xlog xst xpl xrt xcnt xver m : Int) (w : World) (hl1 : 8 ≤ xlog) (hl2 : xlog ≤ 512) (hs1 : 1 ≤ xst) (hs2 : xst ≤ 1152921500311879680) (hm : (xst - 1).tmod xlog = m) (k0 : cntB xgen = true) (k1 : cntB xep = true) (k2 : cntB xst = true) (f0 : (xpl == m) = true) (f1 : decide (xver ≥ 0) = true) (f2 : decide (xver ≤ 1152921500311879680) = false) : Calls Try.prog 47 #[.agg #[.int .i64 xgen, .int .i64 xep, .int .i64 xblk, .int .i64 xlog, .int .i64 xst, .int .i64 xpl, .int .i64 xrt, .int .i64 xcnt, .int .i64 xver]] w fun e w' => e = .returned (.bool false) ∧ Below w.heap.size w w' := by
  obtain ⟨X, hX⟩ : ∃ X, X = w.alloc (.cells #[.int .i64 xgen, .int .i64 xep, .int .i64 xblk, .int .i64 xlog, .int .i64 xst, .int .i64 xpl, .int .i64 xrt, .int .i64 xcnt, .int .i64 xver] 34) := ⟨_, rfl⟩
  obtain ⟨gx, hgx⟩ : ∃ gx, gx = w.heap.size := ⟨_, rfl⟩
  have BX : Hid (Below w.heap.size w X) := Lib.hid (by rw [hX]; exact (Below.refl _ _).alloc (Nat.le_refl _) _)
  have GX : X.heap[gx]? = some (.cells #[.int .i64 xgen, .int .i64 xep, .int .i64 xblk, .int .i64 xlog, .int .i64 xst, .int .i64 xpl, .int .i64 xrt, .int .i64 xcnt, .int .i64 xver] 34 (0, 0)) := by rw [hgx, hX]; exact heap_alloc_new _ _
  have r0 : ∀ (dq : Nat) (os : Array Obj), (grow (redrawn X dq) os).cell? ⟨gx, 0, none⟩ = some (.int .i64 xgen) := fun dq os => cell_regrown (by rw [cell_of_row X gx _ _ _ _ GX]; rfl) dq os
  have r1 : ∀ (dq : Nat) (os : Array Obj), (grow (redrawn X dq) os).cell? ⟨gx, 1, none⟩ = some (.int .i64 xep) := fun dq os => cell_regrown (by rw [cell_of_row X gx _ _ _ _ GX]; rfl) dq os
  have r3 : ∀ (dq : Nat) (os : Array Obj), (grow (redrawn X dq) os).cell? ⟨gx, 3, none⟩ = some (.int .i64 xlog) := fun dq os => cell_regrown (by rw [cell_of_row X gx _ _ _ _ GX]; rfl) dq os
  have r4 : ∀ (dq : Nat) (os : Array Obj), (grow (redrawn X dq) os).cell? ⟨gx, 4, none⟩ = some (.int .i64 xst) := fun dq os => cell_regrown (by rw [cell_of_row X gx _ _ _ _ GX]; rfl) dq os
  have r5 : ∀ (dq : Nat) (os : Array Obj), (grow (redrawn X dq) os).cell? ⟨gx, 5, none⟩ = some (.int .i64 xpl) := fun dq os => cell_regrown (by rw [cell_of_row X gx _ _ _ _ GX]; rfl) dq os
  have r8 : ∀ (dq : Nat) (os : Array Obj), (grow (redrawn X dq) os).cell? ⟨gx, 8, none⟩ = some (.int .i64 xver) := fun dq os => cell_regrown (by rw [cell_of_row X gx _ _ _ _ GX]; rfl) dq os
  have S0 : Hid (∀ (dq : Nat) (os : Array Obj), Calls Try.prog 64 #[.int .i64 xgen] (grow (redrawn X dq) os) fun e w'' => e = .returned (.bool true) ∧ ∃ p : Regrown, w'' = grow (redrawn X p.d) p.os) := Lib.hid (fun dq os => by
    refine (counted_any xgen _).mono ?_
    rintro e w' ⟨rfl, rfl⟩
    exact ⟨by rw [k0], ⟨dq, os⟩, rfl⟩)
  have S1 : Hid (∀ (dq : Nat) (os : Array Obj), Calls Try.prog 64 #[.int .i64 xep] (grow (redrawn X dq) os) fun e w'' => e = .returned (.bool true) ∧ ∃ p : Regrown, w'' = grow (redrawn X p.d) p.os) := Lib.hid (fun dq os => by
    refine (counted_any xep _).mono ?_
    rintro e w' ⟨rfl, rfl⟩
    exact ⟨by rw [k1], ⟨dq, os⟩, rfl⟩)
  have S2 : Hid (∀ (dq : Nat) (os : Array Obj), Calls Try.prog 64 #[.int .i64 xst] (grow (redrawn X dq) os) fun e w'' => e = .returned (.bool true) ∧ ∃ p : Regrown, w'' = grow (redrawn X p.d) p.os) := Lib.hid (fun dq os => by
    refine (counted_any xst _).mono ?_
    rintro e w' ⟨rfl, rfl⟩
    exact ⟨by rw [k2], ⟨dq, os⟩, rfl⟩)
  have hX' := hX.symm
  have hgx' := hgx.symm
  have hn0 : ¬ xlog = 0 := by omega
  clear hX hgx GX k0 k1 k2
  go_enter Try.func47, Try.ntmps47
  go_wp2_with fail
  refine wp_region_quiet_below (by kernel_rfl) (by kernel_rfl) ?_
  repeat (go_big_quiet_step (first | with_reducible exact S0.out _ _ | with_reducible exact S1.out _ _ | with_reducible exact S2.out _ _))
  refine wpQuiet_nil ?_
  intro _ hw'
  obtain ⟨⟨dq, osq⟩, hw''⟩ := hw'
  subst hw''
  go_wp2_with fail
  go_ret
  exact ⟨rfl, BX.out.trans ((below_regrown X dq osq).mono BX.out.size)⟩
set_option maxRecDepth 100000 in
set_option maxHeartbeats 4000000 in
theorem num6 (xgen xep xblk xlog xst xpl xrt xcnt xver m : Int) (w : World) (hl1 : 8 ≤ xlog) (hl2 : xlog ≤ 512) (hs1 : 1 ≤ xst) (hs2 : xst ≤ 1152921500311879680) (hm : (xst - 1).tmod xlog = m) (k0 : cntB xgen = true) (k1 : cntB xep = true) (k2 : cntB xst = true) (f0 : (xpl == m) = true) (f1 : decide (xver ≥ 0) = true) (f2 : decide (xver ≤ 1152921500311879680) = true) : Calls Try.prog 47 #[.agg #[.int .i64 xgen, .int .i64 xep, .int .i64 xblk, .int .i64 xlog, .int .i64 xst, .int .i64 xpl, .int .i64 xrt, .int .i64 xcnt, .int .i64 xver]] w fun e w' => e = .returned (.bool true) ∧ Below w.heap.size w w' := by
  obtain ⟨X, hX⟩ : ∃ X, X = w.alloc (.cells #[.int .i64 xgen, .int .i64 xep, .int .i64 xblk, .int .i64 xlog, .int .i64 xst, .int .i64 xpl, .int .i64 xrt, .int .i64 xcnt, .int .i64 xver] 34) := ⟨_, rfl⟩
  obtain ⟨gx, hgx⟩ : ∃ gx, gx = w.heap.size := ⟨_, rfl⟩
  have BX : Hid (Below w.heap.size w X) := Lib.hid (by rw [hX]; exact (Below.refl _ _).alloc (Nat.le_refl _) _)
  have GX : X.heap[gx]? = some (.cells #[.int .i64 xgen, .int .i64 xep, .int .i64 xblk, .int .i64 xlog, .int .i64 xst, .int .i64 xpl, .int .i64 xrt, .int .i64 xcnt, .int .i64 xver] 34 (0, 0)) := by rw [hgx, hX]; exact heap_alloc_new _ _
  have r0 : ∀ (dq : Nat) (os : Array Obj), (grow (redrawn X dq) os).cell? ⟨gx, 0, none⟩ = some (.int .i64 xgen) := fun dq os => cell_regrown (by rw [cell_of_row X gx _ _ _ _ GX]; rfl) dq os
  have r1 : ∀ (dq : Nat) (os : Array Obj), (grow (redrawn X dq) os).cell? ⟨gx, 1, none⟩ = some (.int .i64 xep) := fun dq os => cell_regrown (by rw [cell_of_row X gx _ _ _ _ GX]; rfl) dq os
  have r3 : ∀ (dq : Nat) (os : Array Obj), (grow (redrawn X dq) os).cell? ⟨gx, 3, none⟩ = some (.int .i64 xlog) := fun dq os => cell_regrown (by rw [cell_of_row X gx _ _ _ _ GX]; rfl) dq os
  have r4 : ∀ (dq : Nat) (os : Array Obj), (grow (redrawn X dq) os).cell? ⟨gx, 4, none⟩ = some (.int .i64 xst) := fun dq os => cell_regrown (by rw [cell_of_row X gx _ _ _ _ GX]; rfl) dq os
  have r5 : ∀ (dq : Nat) (os : Array Obj), (grow (redrawn X dq) os).cell? ⟨gx, 5, none⟩ = some (.int .i64 xpl) := fun dq os => cell_regrown (by rw [cell_of_row X gx _ _ _ _ GX]; rfl) dq os
  have r8 : ∀ (dq : Nat) (os : Array Obj), (grow (redrawn X dq) os).cell? ⟨gx, 8, none⟩ = some (.int .i64 xver) := fun dq os => cell_regrown (by rw [cell_of_row X gx _ _ _ _ GX]; rfl) dq os
  have S0 : Hid (∀ (dq : Nat) (os : Array Obj), Calls Try.prog 64 #[.int .i64 xgen] (grow (redrawn X dq) os) fun e w'' => e = .returned (.bool true) ∧ ∃ p : Regrown, w'' = grow (redrawn X p.d) p.os) := Lib.hid (fun dq os => by
    refine (counted_any xgen _).mono ?_
    rintro e w' ⟨rfl, rfl⟩
    exact ⟨by rw [k0], ⟨dq, os⟩, rfl⟩)
  have S1 : Hid (∀ (dq : Nat) (os : Array Obj), Calls Try.prog 64 #[.int .i64 xep] (grow (redrawn X dq) os) fun e w'' => e = .returned (.bool true) ∧ ∃ p : Regrown, w'' = grow (redrawn X p.d) p.os) := Lib.hid (fun dq os => by
    refine (counted_any xep _).mono ?_
    rintro e w' ⟨rfl, rfl⟩
    exact ⟨by rw [k1], ⟨dq, os⟩, rfl⟩)
  have S2 : Hid (∀ (dq : Nat) (os : Array Obj), Calls Try.prog 64 #[.int .i64 xst] (grow (redrawn X dq) os) fun e w'' => e = .returned (.bool true) ∧ ∃ p : Regrown, w'' = grow (redrawn X p.d) p.os) := Lib.hid (fun dq os => by
    refine (counted_any xst _).mono ?_
    rintro e w' ⟨rfl, rfl⟩
    exact ⟨by rw [k2], ⟨dq, os⟩, rfl⟩)
  have hX' := hX.symm
  have hgx' := hgx.symm
  have hn0 : ¬ xlog = 0 := by omega
  clear hX hgx GX k0 k1 k2
  go_enter Try.func47, Try.ntmps47
  go_wp2_with fail
  refine wp_region_quiet_below (by kernel_rfl) (by kernel_rfl) ?_
  repeat (go_big_quiet_step (first | with_reducible exact S0.out _ _ | with_reducible exact S1.out _ _ | with_reducible exact S2.out _ _))
  refine wpQuiet_nil ?_
  intro _ hw'
  obtain ⟨⟨dq, osq⟩, hw''⟩ := hw'
  subst hw''
  go_wp2_with fail
  go_ret
  exact ⟨rfl, BX.out.trans ((below_regrown X dq osq).mono BX.out.size)⟩
theorem numbered_any (s : Sup) (w : World) (hl1 : 8 ≤ s.log) (hl2 : s.log ≤ 512) : Calls Try.prog 47 #[.agg s.arr] w fun e w' => e = .returned (.bool (numB s)) ∧ Below w.heap.size w w' := by
  obtain ⟨xgen, xep, xblk, xlog, xst, xpl, xrt, xcnt, xver⟩ := s
  unfold numB Sup.arr
  simp only at *
  cases k0 : cntB xgen with
  | false => simpa using num0 xgen xep xblk xlog xst xpl xrt xcnt xver w k0
  | true =>
    cases k1 : cntB xep with
    | false => simpa using num1 xgen xep xblk xlog xst xpl xrt xcnt xver w k0 k1
    | true =>
      cases k2 : cntB xst with
      | false => simpa using num2 xgen xep xblk xlog xst xpl xrt xcnt xver w k0 k1 k2
      | true =>
        have hs : 1 ≤ xst ∧ xst ≤ 1152921500311879680 := by have := k2; unfold cntB at this; simpa only [Bool.and_eq_true, decide_eq_true_iff] using this
        have hm : (xst - 1).tmod xlog = (xst - 1) % xlog := Int.tmod_eq_emod_of_nonneg (by omega)
        by_cases h3 : xpl = (xst - 1) % xlog
        case neg =>
          have := num3 xgen xep xblk xlog xst xpl xrt xcnt xver _ w hl1 hl2 hs.1 hs.2 hm k0 k1 k2 (by rw [beq_eq_false_iff_ne]; exact h3)
          rw [decide_eq_false h3]
          exact this
        have f0 : (xpl == (xst - 1) % xlog) = true := by rw [beq_iff_eq]; exact h3
        rw [decide_eq_true h3]
        by_cases h4 : xver ≥ 0
        case neg =>
          have := num4 xgen xep xblk xlog xst xpl xrt xcnt xver _ w hl1 hl2 hs.1 hs.2 hm k0 k1 k2 f0 (decide_eq_false h4)
          rw [show decide (0 ≤ xver) = false from decide_eq_false h4]
          exact this
        rw [show decide (0 ≤ xver) = true from decide_eq_true h4]
        by_cases h5 : xver ≤ 1152921500311879680
        case neg =>
          have := num5 xgen xep xblk xlog xst xpl xrt xcnt xver _ w hl1 hl2 hs.1 hs.2 hm k0 k1 k2 f0 (decide_eq_true h4) (decide_eq_false h5)
          rw [decide_eq_false h5]
          exact this
        have := num6 xgen xep xblk xlog xst xpl xrt xcnt xver _ w hl1 hl2 hs.1 hs.2 hm k0 k1 k2 f0 (decide_eq_true h4) (decide_eq_true h5)
        rw [decide_eq_true h5]
        exact this
end Go.Proofs.Ytbdlebengmbooaa
