/-
  THE WALKS of package sum: Patch.
-/
import Derived.Test.YtfmgegkeidhdfabWalk5
namespace Go.Proofs.Ytfmgegkeidhdfab
open Go.RowKit

/-- What Patch tells. -/
def patch (x : BitVec 32) (k : Nat) (l m : List (BitVec 8)) : BitVec 32 := x ^^^ shN (8 * k) (upd 0#32 l ^^^ upd 0#32 m)

theorem carry_eq {a : Int} {x : BitVec 32} (ha : a = u x) {k : Int} (n : Nat) (hk : k = n) (hn : n < 9223372036854775808) (w : World) :
    Calls Try.prog 27 #[.int .u32 a, .int .i64 k] w fun e w' => ∃ r, e = .returned (.int .u32 (u r)) ∧ Aside (r = shN (8 * n) x) ∧ w' = w := by
  rw [ha, hk]; exact (carry_any x n hn w).mono fun e w' h => ⟨_, h.1, rfl, h.2⟩
theorem sum_ex (v : Value) (l : List (BitVec 8)) (w : World) (hv : Bytes w v l) :
    Calls Try.prog 20 #[v] w fun e w' => ∃ r, e = .returned (.int .u32 (u r)) ∧ Aside (r = upd 0#32 l) ∧ Below w.heap.size w w' :=
  (sum_any v l w hv).mono fun _ _ h => ⟨_, h.1, rfl, h.2⟩

set_option maxHeartbeats 1000000 in
theorem patch_any (x : BitVec 32) (n at' : Nat) (v v' : Value) (l m : List (BitVec 8)) (w : World) (hv : Bytes w v l) (hv' : Bytes w v' m)
    (hn : n ≤ 1099511627776) (hl : m.length = l.length) (hr : at' + l.length ≤ n) :
    Calls Try.prog 18 #[.int .u32 (u x), .int .i64 n, .int .i64 at', v, v'] w fun e w' => ∃ r, e = .returned (.tuple #[.int .u32 (u r), .int .i64 0]) ∧ Aside (r = patch x (n - at' - l.length) l m) ∧ Below w.heap.size w w' := by
  have V : Aside (Bytes w v l) := hv
  have V' : Aside (Bytes w v' m) := hv'
  obtain ⟨a, cap, rfl, _, _, _, _⟩ := hv
  obtain ⟨a', cap', rfl, _, _, _, _⟩ := hv'
  have L : Aside (m.length = l.length) := hl
  have c1 : ((l.length : Int) != (m.length : Int)) = false := by rw [hl]; simp
  clear hl
  have c2 : ¬ ((n : Int) < 0) := by omega
  have c3 : ¬ ((1099511627776 : Int) < (n : Int)) := by omega
  have c4 : ¬ ((at' : Int) < 0) := by omega
  have c5 : ¬ ((n : Int) < (at' : Int)) := by omega
  have c6 : ¬ ((n : Int) - (at' : Int) - (l.length : Int) < 0) := by omega
  go_enter Try.func18, Try.ntmps18
  go_wp2_with fail
  refine (sum_ex _ l w V.out).mono ?_
  rintro e w1 ⟨r1, rfl, e1, hb⟩
  have B1 : Aside (Below w.heap.size w w1) := hb
  clear hb
  go_wp2_with fail
  refine (sum_ex _ m w1 (V'.out.below B1.out)).mono ?_
  rintro e w2 ⟨r2, rfl, e2, hb⟩
  have B2 : Aside (Below w.heap.size w w2) := B1.out.trans (hb.mono B1.out.size)
  clear hb B1
  go_wp2_with fail
  refine (carry_eq (bits_xor_u r1 r2) (n - at' - l.length) (by omega) (by omega) _).mono ?_
  rintro e w' ⟨r3, rfl, e3, rfl⟩
  go_wp2_with fail
  go_ret2
  refine ⟨x ^^^ r3, by rw [bits_xor_u]; rfl, ?_, B2.out⟩
  show x ^^^ r3 = _
  rw [e3.out, e1.out, e2.out]; rfl

set_option maxHeartbeats 1000000 in
theorem patch_arg (x : BitVec 32) (n at' : Int) (v v' : Value) (l m : List (BitVec 8)) (w : World) (hv : Bytes w v l) (hv' : Bytes w v' m)
    (hn : -9223372036854775808 ≤ n ∧ n ≤ 9223372036854775807) (ha : -9223372036854775808 ≤ at' ∧ at' ≤ 9223372036854775807)
    (h : n < 0 ∨ 1099511627776 < n ∨ at' < 0 ∨ n < at' ∨ l.length ≠ m.length ∨ n - at' < l.length) :
    Calls Try.prog 18 #[.int .u32 (u x), .int .i64 n, .int .i64 at', v, v'] w fun e w' => e = .returned (.tuple #[.int .u32 0, .int .i64 1]) ∧ w' = w := by
  obtain ⟨a, cap, rfl, q1, q2, _, _⟩ := hv
  obtain ⟨a', cap', rfl, _, _, _, _⟩ := hv'
  unfold maxLen at q2
  by_cases g1 : n < 0 ∨ 1099511627776 < n ∨ at' < 0 ∨ n < at' ∨ l.length ≠ m.length
  · have c : (decide (n < 0) || decide (1099511627776 < n) || decide (at' < 0) || decide (n < at') || ((l.length : Int) != (m.length : Int))) = true := by
      rcases g1 with h | h | h | h | h
      · simp [h]
      · simp [h]
      · simp [h]
      · simp [h]
      · have : ((l.length : Int) != (m.length : Int)) = true := by simp; omega
        simp [this]
    clear g1 h
    go_enter Try.func18, Try.ntmps18
    go_wp2_with fail
    all_goals (go_ret2; exact ⟨rfl, rfl⟩)
  · have c1 : ((l.length : Int) != (m.length : Int)) = false := by simp; omega
    have c2 : ¬ (n < 0) := by omega
    have c3 : ¬ (1099511627776 < n) := by omega
    have c4 : ¬ (at' < 0) := by omega
    have c5 : ¬ (n < at') := by omega
    have c6 : n - at' - (l.length : Int) < 0 := by omega
    clear g1 h
    go_enter Try.func18, Try.ntmps18
    go_wp2_with fail
    all_goals (go_ret2; exact ⟨rfl, rfl⟩)
end Go.Proofs.Ytfmgegkeidhdfab
