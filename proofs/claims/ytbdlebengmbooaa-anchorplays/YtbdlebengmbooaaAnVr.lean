/-
  rooted.
-/
import Derived.Test.YtbdlebengmbooaaAnV
import Derived.BigQuiet
namespace Go.Proofs.Ytbdlebengmbooaa
open Go.RowKit Go.Maps
set_option maxRecDepth 100000 in
set_option maxHeartbeats 4000000 in
theorem rooted_any (s : Sup) (w : World) (hl1 : 8 ≤ s.log) (hl2 : s.log ≤ 512) : Calls Try.prog 48 #[.agg s.arr] w fun e w' => e = .returned (.bool (rooB s)) ∧ Below w.heap.size w w' := by
  have SE := Lib.hid counted_same
  obtain ⟨r, hr⟩ : ∃ r, r = rooB s := ⟨_, rfl⟩
  rw [← hr]
  have RR := Lib.hid hr
  obtain ⟨xgen, xep, xblk, xlog, xst, xpl, xrt, xcnt, xver⟩ := s
  unfold rooB at RR
  simp only at *
  clear hr
  unfold Sup.arr
  simp only
  by_cases h0 : xrt = 0
  · have f0 : (xrt == 0) = true := by rw [beq_iff_eq]; exact h0
    by_cases h1 : xcnt = 0
    · have f1 : (xcnt == 0) = true := by rw [beq_iff_eq]; exact h1
      obtain rfl : r = true := by rw [RR.out, decide_eq_true h0, decide_eq_true h1]; rfl
      clear RR
      go_enter Try.func48, Try.ntmps48
      go_wp2_with (go_at_call 64; refine (SE.out _ _).mono ?_; rintro e w1 ⟨rfl, rfl⟩)
      go_ret
      exact ⟨rfl, (Below.refl _ _).alloc (Nat.le_refl _) _⟩
    · have f1 : (xcnt == 0) = false := by rw [beq_eq_false_iff_ne]; exact h1
      have f2 : decide (xrt ≥ 2 + xlog) = false := decide_eq_false (by omega)
      obtain rfl : r = false := by rw [RR.out, decide_eq_true h0, decide_eq_false h1, show decide (2 + xlog ≤ xrt) = false from f2]; rfl
      clear RR
      go_enter Try.func48, Try.ntmps48
      go_wp2_with (go_at_call 64; refine (SE.out _ _).mono ?_; rintro e w1 ⟨rfl, rfl⟩)
      go_ret
      exact ⟨rfl, (Below.refl _ _).alloc (Nat.le_refl _) _⟩
  · have f0 : (xrt == 0) = false := by rw [beq_eq_false_iff_ne]; exact h0
    by_cases h2 : xrt ≥ 2 + xlog
    case neg =>
      have f2 : decide (xrt ≥ 2 + xlog) = false := decide_eq_false h2
      obtain rfl : r = false := by rw [RR.out, decide_eq_false h0, show decide (2 + xlog ≤ xrt) = false from f2]; rfl
      clear RR
      go_enter Try.func48, Try.ntmps48
      go_wp2_with (go_at_call 64; refine (SE.out _ _).mono ?_; rintro e w1 ⟨rfl, rfl⟩)
      go_ret
      exact ⟨rfl, (Below.refl _ _).alloc (Nat.le_refl _) _⟩
    have f2 : decide (xrt ≥ 2 + xlog) = true := decide_eq_true h2
    by_cases h3 : xrt < xblk
    case neg =>
      have f3 : decide (xrt < xblk) = false := decide_eq_false h3
      obtain rfl : r = false := by rw [RR.out, decide_eq_false h0, show decide (2 + xlog ≤ xrt) = true from f2, f3]; rfl
      clear RR
      go_enter Try.func48, Try.ntmps48
      go_wp2_with (go_at_call 64; refine (SE.out _ _).mono ?_; rintro e w1 ⟨rfl, rfl⟩)
      go_ret
      exact ⟨rfl, (Below.refl _ _).alloc (Nat.le_refl _) _⟩
    have f3 : decide (xrt < xblk) = true := decide_eq_true h3
    obtain rfl : r = cntB xcnt := by rw [RR.out, decide_eq_false h0, show decide (2 + xlog ≤ xrt) = true from f2, f3, Bool.false_and, Bool.false_or, Bool.true_and, Bool.true_and]
    clear RR
    go_enter Try.func48, Try.ntmps48
    go_wp2_with (go_at_call 64; refine (SE.out _ _).mono ?_; rintro e w1 ⟨rfl, rfl⟩)
    go_ret
    exact ⟨rfl, (Below.refl _ _).alloc (Nat.le_refl _) _⟩
end Go.Proofs.Ytbdlebengmbooaa
