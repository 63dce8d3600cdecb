/-
  THE WALK of QuantScales.
-/
import Derived.Test.YtjegjpdeclgegaaDoorTimesU
import Derived.Test.YtjegjpdeclgegaaDoorKnownK
namespace Go.Proofs.YtjegjpdeclgegaaDoor
open Go.RowKit Go.Lib
def scaleR (v n d : Int) : Int × Int := if v < 0 ∨ n < 0 ∨ d < 1 then (0, 1) else timesT (v.toNat * n.toNat) d.toNat
/-- A number of two words. -/
theorem two_ge {X T : Nat} (h : T ≤ X) : X / 18446744073709551616 > T / 18446744073709551616 ∨ (X / 18446744073709551616 = T / 18446744073709551616 ∧ T % 18446744073709551616 ≤ X % 18446744073709551616) := by omega
theorem two_lt {X T : Nat} (h : X < T) : X / 18446744073709551616 < T / 18446744073709551616 ∨ (X / 18446744073709551616 = T / 18446744073709551616 ∧ X % 18446744073709551616 < T % 18446744073709551616) := by omega
theorem ceil_ge (T d : Nat) (hd : 0 < d) : T ≤ ceilT T d * d := by
  unfold ceilT
  have h := Nat.div_add_mod T d
  have h2 := Nat.mod_lt T hd
  rw [Nat.mul_comm] at h
  by_cases hr : 0 < T % d
  · rw [if_pos hr, Nat.add_mul]; omega
  · rw [if_neg hr, Nat.add_zero]; omega
theorem ceil_lt (T d k : Nat) (hd : 0 < d) (hk : k < ceilT T d) : k * d < T := by
  unfold ceilT at hk
  have h := Nat.div_add_mod T d
  rw [Nat.mul_comm] at h
  by_cases hr : 0 < T % d
  · rw [if_pos hr] at hk
    have : k * d ≤ T / d * d := Nat.mul_le_mul_right _ (by omega)
    omega
  · rw [if_neg hr, Nat.add_zero] at hk
    have : (k + 1) * d ≤ T / d * d := Nat.mul_le_mul_right _ (by omega)
    rw [Nat.add_mul] at this
    omega
end Go.Proofs.YtjegjpdeclgegaaDoor
