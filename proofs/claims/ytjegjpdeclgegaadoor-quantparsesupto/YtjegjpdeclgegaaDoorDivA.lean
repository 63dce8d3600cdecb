/-
  Div64 with no high part; timesBy where nothing is divided.
-/
import Derived.Test.YtjegjpdeclgegaaDoorFacA
namespace Go.Proofs.YtjegjpdeclgegaaDoor
open Go.RowKit Go.Lib
set_option maxHeartbeats 4000000 in
set_option maxRecDepth 100000 in
theorem div_low (lo : Nat) (hl : lo < 18446744073709551616) (w : World) : Calls Tryd.prog 34 #[.int .u64 0, .int .u64 lo, .int .u64 1] w fun e w' => e = .returned (.tuple #[.int .u64 lo, .int .u64 0]) ∧ Below w.heap.size w w' := by
  have hlo : (lo : Int) < 18446744073709551616 := by omega
  go_enter Tryd.func34, Tryd.ntmps34
  go_wp2_with fail
  go_quiet (fail)
  go_wp2_with fail
  go_ret2
  exact ⟨rfl, ⟨rfl, rfl, rfl, Nat.le_refl _, fun _ _ => rfl⟩⟩
set_option maxHeartbeats 4000000 in
set_option maxRecDepth 100000 in
theorem times_one (a b v : Nat) (ha : a < 18446744073709551616) (hb : b < 18446744073709551616) (hv : a * b = v) (hm : v < 9223372036854775808) (w : World) :
    Calls Tryd.prog 19 #[.int .u64 a, .int .u64 b, .int .u64 1] w fun e w' => e = .returned (.tuple #[.int .i64 v, .int .i64 0]) ∧ Below w.heap.size w w' := by
  have A : Aside (a < 18446744073709551616 ∧ b < 18446744073709551616 ∧ a * b = v) := ⟨ha, hb, hv⟩
  clear ha hb hv
  have v1 : (v : Int) ≤ 9223372036854775807 := by omega
  have v2 : (v : Int) < 9223372036854775808 := by omega
  have v3 : (v : Int) < 18446744073709551616 := by omega
  by_cases h : v = 9223372036854775807
  · subst h
    clear v1 v2 v3 hm
    go_enter Tryd.func19, Tryd.ntmps19
    go_wp2_with fail
    refine (Tryd.bits_Mul64 a b A.out.1 A.out.2.1 w).mono ?_
    rintro e w1 ⟨rfl, rfl⟩
    rw [A.out.2.2, show ((9223372036854775807 / 18446744073709551616 : Nat) : Int) = 0 from rfl, show ((9223372036854775807 % 18446744073709551616 : Nat) : Int) = 9223372036854775807 from rfl]
    go_wp2_with fail
    refine (div_low 9223372036854775807 (by omega) w1).mono ?_
    rintro e w2 ⟨rfl, hb⟩
    have B : Aside (Below w1.heap.size w1 w2) := hb
    clear hb
    rw [show ((9223372036854775807 : Nat) : Int) = 9223372036854775807 from rfl]
    go_wp2_with fail
    go_ret2
    exact ⟨rfl, B.out.trans ⟨rfl, rfl, rfl, Nat.le_refl _, fun _ _ => rfl⟩⟩
  · have hne : ¬ (v : Int) = 9223372036854775807 := by omega
    have hne' : ((v : Int) == 9223372036854775807) = false := by simpa using hne
    have g1' : decide ((9223372036854775807 : Int) < v) = false := by rw [decide_eq_false_iff_not]; omega
    clear h
    go_enter Tryd.func19, Tryd.ntmps19
    go_wp2_with fail
    refine (Tryd.bits_Mul64 a b A.out.1 A.out.2.1 w).mono ?_
    rintro e w1 ⟨rfl, rfl⟩
    rw [A.out.2.2, show v / 18446744073709551616 = 0 by omega, show v % 18446744073709551616 = v by omega]
    rw [show ((0 : Nat) : Int) = 0 from rfl]
    go_wp2_with fail
    refine (div_low v (by omega) w1).mono ?_
    rintro e w2 ⟨rfl, hb⟩
    have B : Aside (Below w1.heap.size w1 w2) := hb
    clear hb
    go_wp2_with fail
    go_ret2
    exact ⟨rfl, B.out.trans ⟨rfl, rfl, rfl, Nat.le_refl _, fun _ _ => rfl⟩⟩
end Go.Proofs.YtjegjpdeclgegaaDoor
