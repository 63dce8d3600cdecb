/-
  THE WALK of QuantScales.
-/
import Derived.Test.YtendjedlcobhlaaDoorTimesU
import Derived.Test.YtendjedlcobhlaaDoorKnownK
namespace Go.Proofs.YtendjedlcobhlaaDoor
open Go.RowKit Go.Lib
def scaleR (v n d : Int) : Int × Int := if v < 0 ∨ n < 0 ∨ d < 1 then (0, 1) else timesT (v.toNat * n.toNat) d.toNat
set_option maxHeartbeats 4000000 in
set_option maxRecDepth 100000 in
theorem scale_bad (v n d : Int) (h : v < 0 ∨ n < 0 ∨ d < 1) (w : World) :
    Calls Tryd.prog 27 #[.int .i64 v, .int .i64 n, .int .i64 d] w fun e w' => e = .returned (.tuple #[.int .i64 0, .int .i64 1]) ∧ RowKit.Below w.heap.size w w' := by
  by_cases h1 : v < 0
  · have g1 : decide (v < 0) = true := decide_eq_true h1
    go_enter Tryd.func27, Tryd.ntmps27
    go_wp2_with fail
    go_ret2
    exact ⟨rfl, RowKit.Below.refl _ _⟩
  · have g1 : decide (v < 0) = false := decide_eq_false h1
    by_cases h2 : n < 0
    · have g2 : decide (n < 0) = true := decide_eq_true h2
      go_enter Tryd.func27, Tryd.ntmps27
      go_wp2_with fail
      go_ret2
      exact ⟨rfl, RowKit.Below.refl _ _⟩
    · have g2 : decide (n < 0) = false := decide_eq_false h2
      have g3 : decide (d < 1) = true := decide_eq_true (by omega)
      go_enter Tryd.func27, Tryd.ntmps27
      go_wp2_with fail
      go_ret2
      exact ⟨rfl, RowKit.Below.refl _ _⟩
set_option maxHeartbeats 4000000 in
set_option maxRecDepth 100000 in
theorem scale_good (V N D : Nat) (hV : V < 9223372036854775808) (hN : N < 9223372036854775808) (hD : D < 9223372036854775808) (h1 : 1 ≤ D) (w : World) :
    Calls Tryd.prog 27 #[.int .i64 V, .int .i64 N, .int .i64 D] w fun e w' => e = .returned (.tuple #[.int .i64 (timesT (V * N) D).1, .int .i64 (timesT (V * N) D).2]) ∧ RowKit.Below w.heap.size w w' := by
  have TA := Lib.hid (times_any V N D (by omega) (by omega) (by omega) (by omega))
  obtain ⟨⟨q, e⟩, hq⟩ : ∃ r, r = timesT (V * N) D := ⟨_, rfl⟩
  rw [← hq] at TA ⊢
  have g1 : decide ((V : Int) < 0) = false := decide_eq_false (by omega)
  have g2 : decide ((N : Int) < 0) = false := decide_eq_false (by omega)
  have g3 : decide ((D : Int) < 1) = false := decide_eq_false (by omega)
  have k1 : (V : Int) < 9223372036854775808 := by omega
  have k2 : (N : Int) < 9223372036854775808 := by omega
  have k3 : (D : Int) < 9223372036854775808 := by omega
  clear hq hV hN hD h1
  go_enter Tryd.func27, Tryd.ntmps27
  go_wp2_with fail
  refine (TA.out w).mono ?_
  rintro r w1 ⟨rfl, hb⟩
  have B1 := Lib.hid hb
  clear hb TA
  go_wp2_with fail
  go_ret2
  exact ⟨rfl, B1.out⟩
/-- A number of two words. -/
theorem two_ge {X T : Nat} (h : T ≤ X) : X / 18446744073709551616 > T / 18446744073709551616 ∨ (X / 18446744073709551616 = T / 18446744073709551616 ∧ T % 18446744073709551616 ≤ X % 18446744073709551616) := by omega
theorem two_lt {X T : Nat} (h : X < T) : X / 18446744073709551616 < T / 18446744073709551616 ∨ (X / 18446744073709551616 = T / 18446744073709551616 ∧ X % 18446744073709551616 < T % 18446744073709551616) := by omega
theorem ceil_ge (T d : Nat) (hd : 0 < d) : T ≤ ceilT T d * d := by
  unfold ceilT
  have h := Nat.div_add_mod T d
  have h2 := Nat.mod_lt T hd
  rw [Nat.mul_comm] at h
  by_cases hr : 0 < T % d
  · rw [if_pos hr, Nat.add_mul]; omega
  · rw [if_neg hr, Nat.add_zero]; omega
theorem ceil_lt (T d k : Nat) (hd : 0 < d) (hk : k < ceilT T d) : k * d < T := by
  unfold ceilT at hk
  have h := Nat.div_add_mod T d
  rw [Nat.mul_comm] at h
  by_cases hr : 0 < T % d
  · rw [if_pos hr] at hk
    have : k * d ≤ T / d * d := Nat.mul_le_mul_right _ (by omega)
    omega
  · rw [if_neg hr, Nat.add_zero] at hk
    have : (k + 1) * d ≤ T / d * d := Nat.mul_le_mul_right _ (by omega)
    rw [Nat.add_mul] at this
    omega
end Go.Proofs.YtendjedlcobhlaaDoor
