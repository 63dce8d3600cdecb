/-
  counted, parted, numbered, rooted, Valid.
-/
import Derived.Test.YtbdlebengmbooaaAnC
namespace Go.Proofs.Ytbdlebengmbooaa
open Go.RowKit Go.Maps
def cntB (n : Int) : Bool := decide (1 ≤ n) && decide (n ≤ 1152921500311879680)
def parB (s : Sup) : Bool := decide (64 ≤ s.blk) && (decide (s.blk ≤ 4096) && (decide (8 ≤ s.log) && (decide (s.log ≤ 512) && decide (2 + s.log + 40 ≤ s.blk))))
def numB (s : Sup) : Bool := cntB s.gen && (cntB s.ep && (cntB s.st && (decide (s.pl = (s.st - 1) % s.log) && (decide (0 ≤ s.ver) && decide (s.ver ≤ 1152921500311879680)))))
def rooB (s : Sup) : Bool := (decide (s.rt = 0) && decide (s.cnt = 0)) || (decide (2 + s.log ≤ s.rt) && (decide (s.rt < s.blk) && cntB s.cnt))
def vaB (s : Sup) (b : Int) : Bool := decide (s.blk = b) && (parB s && (numB s && rooB s))
/-- What holds of a valid superblock. -/
structure Vd (s : Sup) : Prop where
  b1 : 64 ≤ s.blk
  b2 : s.blk ≤ 4096
  l1 : 8 ≤ s.log
  l2 : s.log ≤ 512
  lb : 2 + s.log + 40 ≤ s.blk
  g1 : 1 ≤ s.gen
  g2 : s.gen ≤ 1152921500311879680
  e1 : 1 ≤ s.ep
  e2 : s.ep ≤ 1152921500311879680
  s1 : 1 ≤ s.st
  s2 : s.st ≤ 1152921500311879680
  pl : s.pl = (s.st - 1) % s.log
  v1 : 0 ≤ s.ver
  v2 : s.ver ≤ 1152921500311879680
  rt : (s.rt = 0 ∧ s.cnt = 0) ∨ (2 + s.log ≤ s.rt ∧ s.rt < s.blk ∧ 1 ≤ s.cnt ∧ s.cnt ≤ 1152921500311879680)
theorem vd_iff (s : Sup) : vaB s s.blk = true ↔ Vd s := by
  unfold vaB parB numB rooB cntB
  simp only [Bool.and_eq_true, Bool.or_eq_true, decide_eq_true_iff, true_and]
  constructor
  · rintro ⟨⟨h1, h2, h3, h4, h5⟩, ⟨⟨h6, h7⟩, ⟨h8, h9⟩, ⟨h10, h11⟩, h12, h13, h14⟩, h15⟩
    exact ⟨h1, h2, h3, h4, h5, h6, h7, h8, h9, h10, h11, h12, h13, h14, h15⟩
  · rintro ⟨h1, h2, h3, h4, h5, h6, h7, h8, h9, h10, h11, h12, h13, h14, h15⟩
    exact ⟨⟨h1, h2, h3, h4, h5⟩, ⟨⟨h6, h7⟩, ⟨h8, h9⟩, ⟨h10, h11⟩, h12, h13, h14⟩, h15⟩
theorem box_below (w : World) (s : Sup) : Below w.heap.size w (w.alloc (.cells s.arr 34)) := (Below.refl _ _).alloc (Nat.le_refl _) _
set_option maxHeartbeats 400000 in
theorem counted_any (n : Int) (w : World) : Calls Try.prog 64 #[.int .i64 n] w fun e w' => e = .returned (.bool (cntB n)) ∧ w' = w := by
  by_cases h1 : n ≥ 1
  · have d1 : decide (n ≥ 1) = true := decide_eq_true h1
    go_enter Try.func64, Try.ntmps64
    go_wp2_with fail
    go_ret
    refine ⟨?_, rfl⟩
    have : cntB n = decide (n ≤ 1152921500311879680) := by unfold cntB; rw [show decide (1 ≤ n) = true from d1, Bool.true_and]
    rw [this]
    rfl
  · have d1 : decide (n ≥ 1) = false := decide_eq_false h1
    go_enter Try.func64, Try.ntmps64
    go_wp2_with fail
    go_ret
    refine ⟨?_, rfl⟩
    have : cntB n = false := by unfold cntB; rw [show decide (1 ≤ n) = false from d1, Bool.false_and]
    rw [this]
    rfl
set_option maxRecDepth 100000 in
set_option maxHeartbeats 4000000 in
theorem parted_any (s : Sup) (w : World) : Calls Try.prog 46 #[.agg s.arr] w fun e w' => e = .returned (.bool (parB s)) ∧ Below w.heap.size w w' := by
  have BB := Lib.hid (box_below w s)
  obtain ⟨r, hr⟩ : ∃ r, r = parB s := ⟨_, rfl⟩
  rw [← hr]
  have RR := Lib.hid hr
  obtain ⟨xgen, xep, xblk, xlog, xst, xpl, xrt, xcnt, xver⟩ := s
  unfold parB at RR
  simp only at *
  clear hr
  unfold Sup.arr at BB ⊢
  simp only at BB ⊢
  by_cases h0 : xblk ≥ 64
  case neg =>
    have f0 : decide (xblk ≥ 64) = false := decide_eq_false h0
    obtain rfl : r = false := by rw [RR.out, show decide (64 ≤ xblk) = false from f0]; rfl
    clear RR
    go_enter Try.func46, Try.ntmps46
    go_wp2_with fail
    go_ret
    exact ⟨rfl, BB.out⟩
  have f0 : decide (xblk ≥ 64) = true := decide_eq_true h0
  by_cases h1 : xblk ≤ 4096
  case neg =>
    have f1 : decide (xblk ≤ 4096) = false := decide_eq_false h1
    obtain rfl : r = false := by rw [RR.out, show decide (64 ≤ xblk) = true from f0, show decide (xblk ≤ 4096) = false from f1]; rfl
    clear RR
    go_enter Try.func46, Try.ntmps46
    go_wp2_with fail
    go_ret
    exact ⟨rfl, BB.out⟩
  have f1 : decide (xblk ≤ 4096) = true := decide_eq_true h1
  by_cases h2 : xlog ≥ 8
  case neg =>
    have f2 : decide (xlog ≥ 8) = false := decide_eq_false h2
    obtain rfl : r = false := by rw [RR.out, show decide (64 ≤ xblk) = true from f0, show decide (xblk ≤ 4096) = true from f1, show decide (8 ≤ xlog) = false from f2]; rfl
    clear RR
    go_enter Try.func46, Try.ntmps46
    go_wp2_with fail
    go_ret
    exact ⟨rfl, BB.out⟩
  have f2 : decide (xlog ≥ 8) = true := decide_eq_true h2
  by_cases h3 : xlog ≤ 512
  case neg =>
    have f3 : decide (xlog ≤ 512) = false := decide_eq_false h3
    obtain rfl : r = false := by rw [RR.out, show decide (64 ≤ xblk) = true from f0, show decide (xblk ≤ 4096) = true from f1, show decide (8 ≤ xlog) = true from f2, show decide (xlog ≤ 512) = false from f3]; rfl
    clear RR
    go_enter Try.func46, Try.ntmps46
    go_wp2_with fail
    go_ret
    exact ⟨rfl, BB.out⟩
  have f3 : decide (xlog ≤ 512) = true := decide_eq_true h3
  by_cases h4 : 2 + xlog + 40 ≤ xblk
  case neg =>
    have f4 : decide (2 + xlog + 40 ≤ xblk) = false := decide_eq_false h4
    obtain rfl : r = false := by rw [RR.out, show decide (64 ≤ xblk) = true from f0, show decide (xblk ≤ 4096) = true from f1, show decide (8 ≤ xlog) = true from f2, show decide (xlog ≤ 512) = true from f3, show decide (2 + xlog + 40 ≤ xblk) = false from f4]; rfl
    clear RR
    go_enter Try.func46, Try.ntmps46
    go_wp2_with fail
    go_ret
    exact ⟨rfl, BB.out⟩
  have f4 : decide (2 + xlog + 40 ≤ xblk) = true := decide_eq_true h4
  obtain rfl : r = true := by rw [RR.out, show decide (64 ≤ xblk) = true from f0, show decide (xblk ≤ 4096) = true from f1, show decide (8 ≤ xlog) = true from f2, show decide (xlog ≤ 512) = true from f3, show decide (2 + xlog + 40 ≤ xblk) = true from f4]; rfl
  clear RR
  go_enter Try.func46, Try.ntmps46
  go_wp2_with fail
  go_ret
  exact ⟨rfl, BB.out⟩
theorem counted_same (n : Int) (w : World) : Calls Try.prog 64 #[.int .i64 n] w fun e w' => e = .returned (.bool (cntB n)) ∧ w' = w := counted_any n w
set_option maxHeartbeats 400000 in
theorem home_any (s : Sup) (w : World) (h : 0 ≤ s.gen) : Calls Try.prog 29 #[.agg s.arr] w fun e w' => e = .returned (.int .i64 (s.gen % 2)) ∧ Below w.heap.size w w' := by
  have BB := Lib.hid (box_below w s)
  obtain ⟨xgen, xep, xblk, xlog, xst, xpl, xrt, xcnt, xver⟩ := s
  simp only at *
  unfold Sup.arr at BB ⊢
  simp only at BB ⊢
  have hrem : xgen.tmod 2 = xgen % 2 := Int.tmod_eq_emod_of_nonneg h
  go_enter Try.func29, Try.ntmps29
  go_wp2_with fail
  go_ret
  first | exact ⟨rfl, BB.out⟩ | exact ⟨ret_int (by omega), BB.out⟩ | exact ⟨ret_int hrem, BB.out⟩
end Go.Proofs.Ytbdlebengmbooaa
