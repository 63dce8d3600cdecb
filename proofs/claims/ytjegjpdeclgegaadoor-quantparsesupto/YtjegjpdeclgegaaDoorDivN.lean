/-
  Div64: its numbers at the first loop.
-/
import Derived.Test.YtjegjpdeclgegaaDoorDivM
import Derived.Laws.Bits64b
import Derived.Deep.LoopGhost
namespace Go.Proofs.YtjegjpdeclgegaaDoor
open Go.RowKit Go.Lib
theorem lz_spec (y : Nat) (h0 : 0 < y) (h : y < 18446744073709551616) : ∃ z : Nat, (z : Int) = 64 - (Lib.bitLen (y : Int).toNat : Int) ∧ z < 64 ∧ 9223372036854775808 ≤ y * 2 ^ z ∧ y * 2 ^ z < 18446744073709551616 := by
  have e : (y : Int).toNat = y := by omega
  rw [e]
  obtain ⟨b1, b2, b3⟩ := bitLenAux_bounds 64 y (by simpa using h) (by omega)
  have b4 : Lib.bitLen y ≤ 64 := bitLen_le y 64 (by omega) (by simpa using h)
  have eL : bitLenAux 64 y = Lib.bitLen y := rfl
  rw [eL] at b1 b2 b3
  obtain ⟨L, hL⟩ : ∃ L, L = Lib.bitLen y := ⟨_, rfl⟩
  rw [← hL] at b1 b2 b3 b4 ⊢
  refine ⟨64 - L, by omega, by omega, ?_, ?_⟩
  · have h1 : 2 ^ (L - 1) * 2 ^ (64 - L) ≤ y * 2 ^ (64 - L) := Nat.mul_le_mul_right _ b2
    rw [← Nat.pow_add, show L - 1 + (64 - L) = 63 by omega] at h1
    simpa using h1
  · have h1 : y * 2 ^ (64 - L) < 2 ^ L * 2 ^ (64 - L) := Nat.mul_lt_mul_of_pos_right b3 (Nat.pow_pos (by omega))
    rw [← Nat.pow_add, show L + (64 - L) = 64 by omega] at h1
    simpa using h1
theorem wrapN (a : Nat) (ha : a < 18446744073709551616) : IntKind.u64.wrap (a : Int) = (a : Int) := by rw [IntKind.wrap_u64]; omega
theorem wrapM (a : Nat) : IntKind.u64.wrap (a : Int) = ((a % 18446744073709551616 : Nat) : Int) := by rw [IntKind.wrap_u64]; omega
theorem and_low (x : Nat) (hx : x < 18446744073709551616) : bits .and .u64 (x : Int) 4294967295 = ((x % 4294967296 : Nat) : Int) := by
  have h := bits_and_u64_nat x 4294967295 hx (by omega)
  rw [show (4294967295 : Nat) = 2 ^ 32 - 1 from rfl, Nat.and_two_pow_sub_one_eq_mod] at h
  exact h
/-- What the numbers keep. -/
structure Norm (hi lo y z Y y1 y0 u a b : Nat) : Prop where
  hY : Y = y * 2 ^ z
  hY2 : Y < 18446744073709551616
  hy : Y = y1 * 4294967296 + y0
  h0 : y0 < 4294967296
  h1 : 2147483648 ≤ y1
  h1' : y1 < 4294967296
  hu : u < Y
  ha : a < 4294967296
  hb : b < 4294967296
  all : (u * 4294967296 + a) * 4294967296 + b = (hi * 18446744073709551616 + lo) * 2 ^ z
theorem norm (hi lo y z : Nat) (hy : hi < y) (hz : z < 64) (zy : 9223372036854775808 ≤ y * 2 ^ z) (zy2 : y * 2 ^ z < 18446744073709551616) (hl : lo < 18446744073709551616) :
    ∃ Y y1 y0 H u l a b : Nat, Norm hi lo y z Y y1 y0 u a b ∧ IntKind.u64.wrap ((y : Int) * 2 ^ z) = (Y : Int) ∧ (Y : Int) / 4294967296 = (y1 : Int) ∧ bits .and .u64 (Y : Int) 4294967295 = (y0 : Int) ∧ IntKind.u64.wrap ((hi : Int) * 2 ^ z) = (H : Int) ∧ bits .or .u64 (H : Int) ((lo : Int) / 2 ^ (64 - z)) = (u : Int) ∧ IntKind.u64.wrap ((lo : Int) * 2 ^ z) = (l : Int) ∧ (l : Int) / 4294967296 = (a : Int) ∧ bits .and .u64 (l : Int) 4294967295 = (b : Int) := by
  obtain ⟨k, hk⟩ : ∃ k, k = 2 ^ z := ⟨_, rfl⟩
  obtain ⟨d, hd⟩ : ∃ d, d = 2 ^ (64 - z) := ⟨_, rfl⟩
  have kp : 0 < k := by rw [hk]; exact Nat.pow_pos (by omega)
  have dp : 0 < d := by rw [hd]; exact Nat.pow_pos (by omega)
  have dk : d * k = 18446744073709551616 := by rw [hk, hd, ← Nat.pow_add, show 64 - z + z = 64 by omega]
  have ki : (2 : Int) ^ z = (k : Int) := by rw [hk]; simp
  have di : (2 : Int) ^ (64 - z) = (d : Int) := by rw [hd]; simp
  rw [ki, di]
  rw [← hk] at zy zy2
  have hik : hi * k + k ≤ y * k := by
    have := Nat.mul_le_mul_right k (show hi + 1 ≤ y from hy)
    rwa [Nat.add_mul, Nat.one_mul] at this
  have c1 : lo / d < k := by rw [Nat.div_lt_iff_lt_mul dp, Nat.mul_comm]; omega
  have c2 : lo * k / 18446744073709551616 = lo / d := by rw [← dk, Nat.mul_div_mul_right _ _ kp]
  have eq1 : (y : Int) * (k : Int) = ((y * k : Nat) : Int) := by push_cast; rfl
  have eq2 : (hi : Int) * (k : Int) = ((hi * k : Nat) : Int) := by push_cast; rfl
  have eq3 : (lo : Int) * (k : Int) = ((lo * k : Nat) : Int) := by push_cast; rfl
  have eq4 : (lo : Int) / (d : Int) = ((lo / d : Nat) : Int) := by push_cast; rfl
  have hor : hi * k ||| lo / d = hi * k + lo / d := by
    have c1' : lo / d < 2 ^ z := by rw [← hk]; exact c1
    have := Nat.two_pow_add_eq_or_of_lt c1' hi
    rw [← hk, Nat.mul_comm k hi] at this
    exact this.symm
  refine ⟨y * k, y * k / 4294967296, y * k % 4294967296, hi * k, hi * k + lo / d, lo * k % 18446744073709551616, lo * k % 18446744073709551616 / 4294967296, lo * k % 18446744073709551616 % 4294967296, ⟨by rw [hk], zy2, by omega, by omega, by omega, by omega, by omega, by omega, by omega, ?_⟩, ?_, by omega, and_low _ zy2, ?_, ?_, ?_, by omega, and_low _ (by omega)⟩
  · rw [← hk, Nat.add_mul (hi * 18446744073709551616), ← c2]
    have e : hi * 18446744073709551616 * k = hi * k * 18446744073709551616 := by rw [Nat.mul_assoc, Nat.mul_comm 18446744073709551616 k, ← Nat.mul_assoc]
    rw [e]
    omega
  · rw [eq1]; exact wrapN _ zy2
  · rw [eq2]; exact wrapN _ (by omega)
  · rw [eq4, bits_or_u64_nat _ _ (by omega) (by omega), hor]
  · rw [eq3]; exact wrapM _
end Go.Proofs.YtjegjpdeclgegaaDoor
