/-
  Half a step of Div64, without the program: the digit q of base B that is guessed by the upper half of y, and put right.
-/
import Derived.Test.YtjegjpdeclgegaaDoorDivA
namespace Go.Proofs.YtjegjpdeclgegaaDoor.Half
/-- The guess is not above the digit. -/
theorem le_of {B y1 y0 u a q r : Nat} (hq : q * y1 + r = u) (hy : 0 < y1 * B + y0) (h : q * y0 ≤ B * r + a) : q ≤ (u * B + a) / (y1 * B + y0) := by
  rw [Nat.le_div_iff_mul_le hy]
  have e : q * (y1 * B + y0) = q * y1 * B + q * y0 := by rw [Nat.mul_add, Nat.mul_assoc]
  have e2 : u * B = q * y1 * B + B * r := by rw [← hq, Nat.add_mul, Nat.mul_comm r B]
  omega
/-- The guess is above the digit. -/
theorem lt_of {B y1 y0 u a q r : Nat} (hq : q * y1 + r = u) (hy : 0 < y1 * B + y0) (h : B * r + a < q * y0) : (u * B + a) / (y1 * B + y0) < q := by
  rw [Nat.div_lt_iff_lt_mul hy]
  have e : q * (y1 * B + y0) = q * y1 * B + q * y0 := by rw [Nat.mul_add, Nat.mul_assoc]
  have e2 : u * B = q * y1 * B + B * r := by rw [← hq, Nat.add_mul, Nat.mul_comm r B]
  omega
/-- The digit is below B. -/
theorem dig_lt {B y u a : Nat} (hu : u < y) (ha : a < B) : (u * B + a) / y < B := by
  rw [Nat.div_lt_iff_lt_mul (by omega)]
  have h : (u + 1) * B ≤ y * B := Nat.mul_le_mul_right B hu
  rw [Nat.add_mul, Nat.one_mul] at h
  rw [Nat.mul_comm B y]
  omega
/-- The first guess is not below the digit. -/
theorem first_ge {B y1 y0 u a : Nat} (h1 : 0 < y1) (ha : a < B) : (u * B + a) / (y1 * B + y0) ≤ u / y1 := by
  have hB : 0 < B := by omega
  have hyB : 0 < y1 * B := Nat.mul_pos h1 hB
  have s1 : (u * B + a) / (y1 * B + y0) ≤ (u * B + a) / (y1 * B) := Nat.div_le_div_left (Nat.le_add_right _ _) hyB
  have s2 : (u * B + a) / (y1 * B) = u / y1 := by
    rw [Nat.mul_comm y1 B, ← Nat.div_div_eq_div_mul]
    have : (u * B + a) / B = u := by
      rw [Nat.mul_comm u B, Nat.mul_add_div hB, Nat.div_eq_of_lt ha, Nat.add_zero]
    rw [this]
  omega
/-- The first guess is at most B + 1. -/
theorem first_le {B y1 y0 u : Nat} (h1 : B ≤ 2 * y1) (hB : 0 < B) (h0 : y0 < B) (hu : u < y1 * B + y0) : u / y1 ≤ B + 1 := by
  have hp : 0 < y1 := by omega
  have : u / y1 < B + 2 := by
    rw [Nat.div_lt_iff_lt_mul hp, Nat.add_mul, Nat.mul_comm B y1]
    omega
  omega
/-- One off: the remainder's half grows. -/
theorem off {y1 u q r : Nat} (hq : (q + 1) * y1 + r = u) : q * y1 + (r + y1) = u := by
  rw [Nat.add_mul, Nat.one_mul] at hq
  omega
/-- At the loop's early end the guess is the digit. -/
theorem at_break {B y1 y0 u a q r : Nat} (hq : q * y1 + r = u) (hy : 0 < y1 * B + y0) (hr : B ≤ r) (hqB : q ≤ B) (h0 : y0 < B) : q ≤ (u * B + a) / (y1 * B + y0) := by
  refine le_of hq hy ?_
  have s1 : q * y0 ≤ B * B := Nat.mul_le_mul hqB (by omega)
  have s2 : B * B ≤ B * r := Nat.mul_le_mul_left B hr
  omega
/-- Two halves make the whole. -/
theorem two {B y u a b : Nat} (hy : 0 < y) (_ : b < B) : ((u * B + a) / y) * B + (((u * B + a) % y) * B + b) / y = ((u * B + a) * B + b) / y ∧ (((u * B + a) % y) * B + b) % y = ((u * B + a) * B + b) % y := by
  obtain ⟨n, hn⟩ : ∃ n, n = u * B + a := ⟨_, rfl⟩
  rw [← hn]
  have e : n * B + b = y * (n / y * B) + (n % y * B + b) := by
    have := Nat.div_add_mod n y
    calc n * B + b = (y * (n / y) + n % y) * B + b := by rw [this]
      _ = y * (n / y * B) + (n % y * B + b) := by rw [Nat.add_mul, Nat.mul_assoc, Nat.add_assoc]
  refine ⟨?_, ?_⟩
  · rw [e, Nat.mul_add_div hy]
  · rw [e, Nat.mul_add_mod]
/-- Both sides scaled alike: the quotient stands, the remainder is scaled. -/
theorem scaled {n y k : Nat} (hk : 0 < k) : (n * k) / (y * k) = n / y ∧ (n * k) % (y * k) = n % y * k := by
  exact ⟨Nat.mul_div_mul_right n y hk, Nat.mul_mod_mul_right k n y⟩
end Go.Proofs.YtjegjpdeclgegaaDoor.Half
