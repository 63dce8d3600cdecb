/-
  Div64: its numbers behind the first loop.
-/
import Derived.Test.YtjegjpdeclgegaaDoorDivN
namespace Go.Proofs.YtjegjpdeclgegaaDoor
open Go.RowKit Go.Lib
/-- Behind a loop that found the digit: what is left, by wrapped words. -/
theorem rest_of {u a Y D : Nat} (hY : Y < 18446744073709551616) (hp : 0 < Y) (hD : D = (u * 4294967296 + a) / Y) :
    ∃ m1 m2 m3 : Nat, IntKind.u64.wrap ((u : Int) * 4294967296) = (m1 : Int) ∧ IntKind.u64.wrap ((m1 : Int) + (a : Int)) = (m2 : Int) ∧ IntKind.u64.wrap ((D : Int) * (Y : Int)) = (m3 : Int) ∧ IntKind.u64.wrap ((m2 : Int) - (m3 : Int)) = (((u * 4294967296 + a) % Y : Nat) : Int) := by
  have dm : D * Y + (u * 4294967296 + a) % Y = u * 4294967296 + a := by rw [hD, Nat.mul_comm]; exact Nat.div_add_mod _ _
  have vY : (u * 4294967296 + a) % Y < Y := Nat.mod_lt _ hp
  obtain ⟨v, hv⟩ : ∃ v, v = (u * 4294967296 + a) % Y := ⟨_, rfl⟩
  rw [← hv] at dm vY ⊢
  refine ⟨u * 4294967296 % 18446744073709551616, (u * 4294967296 % 18446744073709551616 + a) % 18446744073709551616, D * Y % 18446744073709551616, ?_, ?_, ?_, ?_⟩
  · rw [IntKind.wrap_u64]; omega
  · rw [IntKind.wrap_u64]; omega
  · rw [IntKind.wrap_u64, show (D : Int) * (Y : Int) = ((D * Y : Nat) : Int) by push_cast; rfl]; omega
  · rw [IntKind.wrap_u64]; omega
/-- The guess by the upper half. -/
theorem guess {u y1 : Nat} (h : 0 < y1) (hu : u < 18446744073709551616) :
    ∃ q r p : Nat, q * y1 + r = u ∧ r < y1 ∧ q = u / y1 ∧ (u : Int) / (y1 : Int) = (q : Int) ∧ (u : Int).tdiv (y1 : Int) = (q : Int) ∧ (q : Int) * (y1 : Int) = (p : Int) ∧ (u : Int) - (p : Int) = (r : Int) ∧ (q : Int) < 18446744073709551616 ∧ (p : Int) < 18446744073709551616 ∧ (r : Int) < 18446744073709551616 := by
  have e : u / y1 * y1 + u % y1 = u := by rw [Nat.mul_comm]; exact Nat.div_add_mod u y1
  have ql : u / y1 ≤ u := Nat.div_le_self _ _
  have f1 : (u : Int) / (y1 : Int) = ((u / y1 : Nat) : Int) := by push_cast; rfl
  refine ⟨u / y1, u % y1, u / y1 * y1, e, Nat.mod_lt _ h, rfl, f1, by rw [Int.tdiv_eq_ediv_of_nonneg (by omega)]; exact f1, by push_cast; rfl, by omega, by omega, by omega, by omega⟩
/-- The whole. -/
theorem whole {hi lo y z Y y1 y0 u a b Q R D v E : Nat} (N : Norm hi lo y z Y y1 y0 u a b) (_ : 0 < y) (hQ : Q = (hi * 18446744073709551616 + lo) / y) (hR : R = (hi * 18446744073709551616 + lo) % y)
    (hD : D = (u * 4294967296 + a) / Y) (hv : v = (u * 4294967296 + a) % Y) (hE : E = (v * 4294967296 + b) / Y) : D * 4294967296 + E = Q ∧ (((v * 4294967296 + b) % Y : Nat) : Int) / 2 ^ z = (R : Int) := by
  have Yp : 0 < Y := by have := N.hu; omega
  have kp : 0 < 2 ^ z := Nat.pow_pos (by omega)
  have h := Half.two (u := u) (a := a) Yp N.hb
  rw [N.all, ← hv] at h
  obtain ⟨h1, h2⟩ := h
  obtain ⟨g1, g2⟩ := Half.scaled (n := hi * 18446744073709551616 + lo) (y := y) kp
  rw [← N.hY] at g1 g2
  refine ⟨?_, ?_⟩
  · rw [hD, hE, h1, g1, hQ]
  · rw [h2, g2, hR]
    have : (2 : Int) ^ z = ((2 ^ z : Nat) : Int) := by simp
    rw [this, ← Int.natCast_ediv, Nat.mul_div_cancel _ kp]
end Go.Proofs.YtjegjpdeclgegaaDoor
