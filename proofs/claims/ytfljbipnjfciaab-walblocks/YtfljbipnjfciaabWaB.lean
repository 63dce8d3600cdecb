/-
  serial, valid, share.
-/
import Derived.Test.YtfljbipnjfciaabWaA
namespace Go.Proofs.Ytfljbipnjfciaab
open Go.RowKit Go.Maps
/-- A group, as a block tells it. -/
structure Grp where
  ep : Int
  st : Int
  ix : Int
  tot : Int
  by_ : Int
def Grp.arr (g : Grp) : Array Value := #[.int .i64 g.ep, .int .i64 g.st, .int .i64 g.ix, .int .i64 g.tot, .int .i64 g.by_]
def serB (n : Int) : Bool := decide (1 ≤ n) && decide (n ≤ 1152921504606846976)
def valG (g : Grp) : Bool := decide (1 ≤ g.tot) && decide (g.tot ≤ 512) && decide (0 ≤ g.ix) && decide (g.ix < g.tot) && serB g.ep && serB g.st && decide (464 * (g.tot - 1) < g.by_) && decide (g.by_ ≤ 464 * g.tot)
def shG (g : Grp) : Int := min 464 (g.by_ - 464 * g.ix)
/-- What holds of the numbers of a valid group. -/
structure Val (g : Grp) : Prop where
  t1 : 1 ≤ g.tot
  t2 : g.tot ≤ 512
  i1 : 0 ≤ g.ix
  i2 : g.ix < g.tot
  e1 : 1 ≤ g.ep
  e2 : g.ep ≤ 1152921504606846976
  s1 : 1 ≤ g.st
  s2 : g.st ≤ 1152921504606846976
  b1 : 464 * (g.tot - 1) < g.by_
  b2 : g.by_ ≤ 464 * g.tot
theorem val_iff (g : Grp) : valG g = true ↔ Val g := by
  unfold valG serB
  simp only [Bool.and_eq_true, decide_eq_true_iff]
  constructor
  · rintro ⟨⟨⟨⟨⟨⟨⟨h1, h2⟩, h3⟩, h4⟩, h5, h6⟩, h7, h8⟩, h9⟩, h10⟩
    exact ⟨h1, h2, h3, h4, h5, h6, h7, h8, h9, h10⟩
  · rintro ⟨h1, h2, h3, h4, h5, h6, h7, h8, h9, h10⟩
    exact ⟨⟨⟨⟨⟨⟨⟨h1, h2⟩, h3⟩, h4⟩, h5, h6⟩, h7, h8⟩, h9⟩, h10⟩
set_option maxHeartbeats 400000 in
theorem serial_any (n : Int) (w : World) : Calls Try.prog 60 #[.int .i64 n] w fun e w' => e = .returned (.bool (serB n)) ∧ w' = w := by
  by_cases h1 : n ≥ 1
  · have d1 : decide (n ≥ 1) = true := decide_eq_true h1
    go_enter Try.func60, Try.ntmps60
    go_wp2_with fail
    go_ret
    refine ⟨?_, rfl⟩
    have : serB n = decide (n ≤ 1152921504606846976) := by unfold serB; rw [show decide (1 ≤ n) = true from d1, Bool.true_and]
    rw [this]
    rfl
  · have d1 : decide (n ≥ 1) = false := decide_eq_false h1
    go_enter Try.func60, Try.ntmps60
    go_wp2_with fail
    go_ret
    refine ⟨?_, rfl⟩
    have : serB n = false := by unfold serB; rw [show decide (1 ≤ n) = false from d1, Bool.false_and]
    rw [this]
    rfl

theorem box_below (w : World) (g : Grp) : Below w.heap.size w (w.alloc (.cells g.arr 23)) := (Below.refl _ _).alloc (Nat.le_refl _) _
set_option maxHeartbeats 4000000 in
theorem valid_any (g : Grp) (w : World) : Calls Try.prog 28 #[.agg g.arr] w fun e w' => e = .returned (.bool (valG g)) ∧ Below w.heap.size w w' := by
  have BB := Lib.hid (box_below w g)
  have SE := Lib.hid serial_any
  obtain ⟨r, hr⟩ : ∃ r, r = valG g := ⟨_, rfl⟩
  rw [← hr]
  have RR := Lib.hid hr
  obtain ⟨ep, st, ix, tot, by_⟩ := g
  unfold valG at RR
  simp only at RR
  clear hr
  unfold Grp.arr at BB ⊢
  simp only at BB ⊢
  by_cases h0 : tot ≥ 1
  case neg =>
    have f0 : decide (tot ≥ 1) = false := decide_eq_false h0
    obtain rfl : r = false := by rw [RR.out, show decide (1 ≤ tot) = false from f0]; simp
    clear RR
    go_enter Try.func28, Try.ntmps28
    go_wp2_with (go_at_call 60; refine (SE.out _ _).mono ?_; rintro e w' ⟨rfl, rfl⟩)
    go_ret
    exact ⟨rfl, BB.out⟩
  have f0 : decide (tot ≥ 1) = true := decide_eq_true h0
  by_cases h1 : tot ≤ 512
  case neg =>
    have f1 : decide (tot ≤ 512) = false := decide_eq_false h1
    obtain rfl : r = false := by rw [RR.out, show decide (1 ≤ tot) = true from f0, show decide (tot ≤ 512) = false from f1]; simp
    clear RR
    go_enter Try.func28, Try.ntmps28
    go_wp2_with (go_at_call 60; refine (SE.out _ _).mono ?_; rintro e w' ⟨rfl, rfl⟩)
    go_ret
    exact ⟨rfl, BB.out⟩
  have f1 : decide (tot ≤ 512) = true := decide_eq_true h1
  by_cases h2 : ix ≥ 0
  case neg =>
    have f2 : decide (ix ≥ 0) = false := decide_eq_false h2
    obtain rfl : r = false := by rw [RR.out, show decide (1 ≤ tot) = true from f0, show decide (tot ≤ 512) = true from f1, show decide (0 ≤ ix) = false from f2]; simp
    clear RR
    go_enter Try.func28, Try.ntmps28
    go_wp2_with (go_at_call 60; refine (SE.out _ _).mono ?_; rintro e w' ⟨rfl, rfl⟩)
    go_ret
    exact ⟨rfl, BB.out⟩
  have f2 : decide (ix ≥ 0) = true := decide_eq_true h2
  by_cases h3 : ix < tot
  case neg =>
    have f3 : decide (ix < tot) = false := decide_eq_false h3
    obtain rfl : r = false := by rw [RR.out, show decide (1 ≤ tot) = true from f0, show decide (tot ≤ 512) = true from f1, show decide (0 ≤ ix) = true from f2, show decide (ix < tot) = false from f3]; simp
    clear RR
    go_enter Try.func28, Try.ntmps28
    go_wp2_with (go_at_call 60; refine (SE.out _ _).mono ?_; rintro e w' ⟨rfl, rfl⟩)
    go_ret
    exact ⟨rfl, BB.out⟩
  have f3 : decide (ix < tot) = true := decide_eq_true h3
  cases f4 : serB ep with
  | false =>
    obtain rfl : r = false := by rw [RR.out, show decide (1 ≤ tot) = true from f0, show decide (tot ≤ 512) = true from f1, show decide (0 ≤ ix) = true from f2, show decide (ix < tot) = true from f3, show serB ep = false from f4]; simp
    clear RR
    go_enter Try.func28, Try.ntmps28
    go_wp2_with (go_at_call 60; refine (SE.out _ _).mono ?_; rintro e w' ⟨rfl, rfl⟩)
    go_ret
    exact ⟨rfl, BB.out⟩
  | true =>
    cases f5 : serB st with
    | false =>
      obtain rfl : r = false := by rw [RR.out, show decide (1 ≤ tot) = true from f0, show decide (tot ≤ 512) = true from f1, show decide (0 ≤ ix) = true from f2, show decide (ix < tot) = true from f3, show serB ep = true from f4, show serB st = false from f5]; simp
      clear RR
      go_enter Try.func28, Try.ntmps28
      go_wp2_with (go_at_call 60; refine (SE.out _ _).mono ?_; rintro e w' ⟨rfl, rfl⟩)
      go_ret
      exact ⟨rfl, BB.out⟩
    | true =>
      by_cases h6 : by_ > 464 * (tot - 1)
      case neg =>
        have f6 : decide (by_ > 464 * (tot - 1)) = false := decide_eq_false h6
        obtain rfl : r = false := by rw [RR.out, show decide (1 ≤ tot) = true from f0, show decide (tot ≤ 512) = true from f1, show decide (0 ≤ ix) = true from f2, show decide (ix < tot) = true from f3, show serB ep = true from f4, show serB st = true from f5, show decide (464 * (tot - 1) < by_) = false from f6]; simp
        clear RR
        go_enter Try.func28, Try.ntmps28
        go_wp2_with (go_at_call 60; refine (SE.out _ _).mono ?_; rintro e w' ⟨rfl, rfl⟩)
        go_ret
        exact ⟨rfl, BB.out⟩
      have f6 : decide (by_ > 464 * (tot - 1)) = true := decide_eq_true h6
      by_cases h7 : by_ ≤ 464 * tot
      case neg =>
        have f7 : decide (by_ ≤ 464 * tot) = false := decide_eq_false h7
        obtain rfl : r = false := by rw [RR.out, show decide (1 ≤ tot) = true from f0, show decide (tot ≤ 512) = true from f1, show decide (0 ≤ ix) = true from f2, show decide (ix < tot) = true from f3, show serB ep = true from f4, show serB st = true from f5, show decide (464 * (tot - 1) < by_) = true from f6, show decide (by_ ≤ 464 * tot) = false from f7]; simp
        clear RR
        go_enter Try.func28, Try.ntmps28
        go_wp2_with (go_at_call 60; refine (SE.out _ _).mono ?_; rintro e w' ⟨rfl, rfl⟩)
        go_ret
        exact ⟨rfl, BB.out⟩
      have f7 : decide (by_ ≤ 464 * tot) = true := decide_eq_true h7
      obtain rfl : r = true := by rw [RR.out, show decide (1 ≤ tot) = true from f0, show decide (tot ≤ 512) = true from f1, show decide (0 ≤ ix) = true from f2, show decide (ix < tot) = true from f3, show serB ep = true from f4, show serB st = true from f5, show decide (464 * (tot - 1) < by_) = true from f6, show decide (by_ ≤ 464 * tot) = true from f7]; simp
      clear RR
      go_enter Try.func28, Try.ntmps28
      go_wp2_with (go_at_call 60; refine (SE.out _ _).mono ?_; rintro e w' ⟨rfl, rfl⟩)
      go_ret
      exact ⟨rfl, BB.out⟩
set_option maxHeartbeats 400000 in
theorem share_any (g : Grp) (hg : Val g) (w : World) : Calls Try.prog 29 #[.agg g.arr] w fun e w' => e = .returned (.int .i64 (shG g)) ∧ Below w.heap.size w w' := by
  have BB := Lib.hid (box_below w g)
  have := hg.t1; have := hg.t2; have := hg.i1; have := hg.i2; have := hg.b1; have := hg.b2
  obtain ⟨ep, st, ix, tot, by_⟩ := g
  unfold Grp.arr at BB ⊢
  unfold shG
  simp only at *
  go_enter Try.func29, Try.ntmps29
  go_wp2_with fail
  all_goals
    go_ret
    exact ⟨ret_int (by omega), BB.out⟩
end Go.Proofs.Ytfljbipnjfciaab
