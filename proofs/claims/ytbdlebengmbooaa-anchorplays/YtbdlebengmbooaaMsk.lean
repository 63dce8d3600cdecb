/-
  Masks of low bits.
-/
import Derived.Test.YtbdlebengmbooaaBase2
import Derived.Laws.Bits64b
namespace Go.Proofs.Ytbdlebengmbooaa
open Go.RowKit
theorem and_low (n : Int) (k : Nat) (hk : k ≤ 32) : bits .and .i64 n (((2 ^ k - 1 : Nat)) : Int) = (((n % 18446744073709551616).toNat % 2 ^ k : Nat) : Int) := by
  have hp : 2 ^ k ≤ 4294967296 := Nat.le_trans (Nat.pow_le_pow_right (by decide) hk) (by decide)
  have hp0 : 0 < 2 ^ k := Nat.two_pow_pos k
  have h1 : (BitVec.ofInt 64 n).toNat = (n % 18446744073709551616).toNat := by rw [BitVec.toNat_ofInt]; rfl
  have h2 : (BitVec.ofInt 64 (((2 ^ k - 1 : Nat)) : Int)).toNat = 2 ^ k - 1 := by
    rw [BitVec.ofInt_natCast, BitVec.toNat_ofNat]; exact Nat.mod_eq_of_lt (by omega)
  show IntKind.i64.wrap ((BitVec.ofInt 64 n &&& BitVec.ofInt 64 (((2 ^ k - 1 : Nat)) : Int)).toNat : Int) = _
  rw [BitVec.toNat_and, h1, h2, Nat.and_two_pow_sub_one_eq_mod, IntKind.wrap_i64]
  have := Nat.mod_lt (n % 18446744073709551616).toNat hp0
  omega
theorem and_4194303 (n : Int) : bits .and .i64 n 4194303 = (((n % 4194304).toNat : Nat) : Int) := by
  have := and_low n 22 (by decide)
  refine this.trans ?_
  show (((n % 18446744073709551616).toNat % 4194304 : Nat) : Int) = _
  omega
theorem and_63 (n : Int) : bits .and .i64 n 63 = (((n % 64).toNat : Nat) : Int) := by
  have := and_low n 6 (by decide)
  refine this.trans ?_
  show (((n % 18446744073709551616).toNat % 64 : Nat) : Int) = _
  omega
theorem and_1023 (n : Int) : bits .and .i64 n 1023 = (((n % 1024).toNat : Nat) : Int) := by
  have := and_low n 10 (by decide)
  refine this.trans ?_
  show (((n % 18446744073709551616).toNat % 1024 : Nat) : Int) = _
  omega
end Go.Proofs.Ytbdlebengmbooaa
