/-
  THE WALK of SumJoinsThree.
-/
import Derived.Test.YtfmgegkeidhdfaaWalk4
import Derived.OpenShut
namespace Go.Proofs.Ytfmgegkeidhdfaa
open Go.RowKit

theorem join_assoc (x y z : BitVec 32) (n m : Nat) : shN (8 * m) (shN (8 * n) x ^^^ y) ^^^ z = shN (8 * (n + m)) x ^^^ (shN (8 * m) y ^^^ z) := by
  rw [shN_xor, shN_add, Nat.mul_add, BitVec.xor_assoc]

set_option maxHeartbeats 400000 in
theorem sumJoinsThree_main (x y z : BitVec 32) (n m : Nat) (hn : n ≤ 549755813888) (hm : m ≤ 549755813888) (w : World) :
    Calls Try.prog 3 #[.int .u32 (u x), .int .u32 (u y), .int .u32 (u z), .int .i64 n, .int .i64 m] w fun e w' => e = .returned (.bool true) ∧ Below w.heap.size w w' := by
  have c1 : ¬ ((n : Int) < 0) := by omega
  have c2 : ¬ ((m : Int) < 0) := by omega
  have c3 : ¬ ((549755813888 : Int) < (n : Int)) := by omega
  have c4 : ¬ ((549755813888 : Int) < (m : Int)) := by omega
  go_enter Try.func3, Try.ntmps3
  go_wp2_with (go_at_call 9; refine (fixed_any _).mono ?_; rintro e w1 ⟨rfl, hb⟩; have B : Aside (Below w.heap.size w w1) := hb; clear hb)
  refine (join_ex x y n rfl (by omega) _).mono ?_
  rintro e w' ⟨r1, rfl, e1, rfl⟩
  go_wp2_with fail
  refine (join_ex r1 z m rfl (by omega) _).mono ?_
  rintro e w' ⟨r2, rfl, e2, rfl⟩
  go_wp2_with fail
  refine (join_ex y z m rfl (by omega) _).mono ?_
  rintro e w' ⟨r3, rfl, e3, rfl⟩
  go_wp2_with fail
  refine (join_ex x r3 (n + m) (by omega) (by omega) _).mono ?_
  rintro e w' ⟨r4, rfl, e4, rfl⟩
  have h : r2 = r4 := by rw [e2.out, e1.out, e4.out, e3.out]; exact join_assoc x y z n m
  clear e1 e2 e3 e4
  subst h
  go_wp2_with fail
  go_ret
  exact ⟨rfl, B.out⟩

set_option maxHeartbeats 400000 in
theorem sumJoinsThree_out (x y z : BitVec 32) (n m : Int) (h : n < 0 ∨ m < 0 ∨ 549755813888 < n ∨ 549755813888 < m) (w : World) :
    Calls Try.prog 3 #[.int .u32 (u x), .int .u32 (u y), .int .u32 (u z), .int .i64 n, .int .i64 m] w fun e w' => e = .returned (.bool true) ∧ Below w.heap.size w w' := by
  have c : (decide (n < 0) || decide (m < 0) || decide (549755813888 < n) || decide (549755813888 < m)) = true := by
    rcases h with h | h | h | h <;> simp [h]
  clear h
  go_enter Try.func3, Try.ntmps3
  go_wp2_with (go_at_call 9; refine (fixed_any _).mono ?_; rintro e w1 ⟨rfl, hb⟩; have B : Aside (Below w.heap.size w w1) := hb; clear hb)
  all_goals (go_ret; exact ⟨rfl, B.out⟩)

theorem sumJoinsThree_walk (x y z : BitVec 32) (a3 a4 : Int) (w : World) (_c3 : -9223372036854775808 ≤ a3 ∧ a3 ≤ 9223372036854775807) (_c4 : -9223372036854775808 ≤ a4 ∧ a4 ≤ 9223372036854775807) :
    Calls Try.prog 3 #[.int .u32 (u x), .int .u32 (u y), .int .u32 (u z), .int .i64 a3, .int .i64 a4] w fun e w' => e = .returned (.bool true) ∧ Below w.heap.size w w' := by
  by_cases h : a3 < 0 ∨ a4 < 0 ∨ 549755813888 < a3 ∨ 549755813888 < a4
  · exact sumJoinsThree_out x y z a3 a4 h w
  · obtain ⟨n, rfl⟩ := Int.eq_ofNat_of_zero_le (show 0 ≤ a3 by omega)
    obtain ⟨m, rfl⟩ := Int.eq_ofNat_of_zero_le (show 0 ≤ a4 by omega)
    exact sumJoinsThree_main x y z n m (by omega) (by omega) w
end Go.Proofs.Ytfmgegkeidhdfaa
