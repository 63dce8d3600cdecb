/-
  THE WALKS of the laws hands: same, own, lay, take.
-/
import Derived.Test.YtmdjicakjljmlaaRd
namespace Go.Proofs.Ytmdjicakjljmlaa
open Go.RowKit

theorem txt_inj {l m : List UInt8} (h : txt l = txt m) : l = m := by rw [← txt_list l, h, txt_list]
theorem txt_beq (l m : List UInt8) : ((txt l).toList == (txt m).toList) = decide (l = m) := by
  rw [ByteArray.toList_eq, ByteArray.toList_eq, txt_list, txt_list, Bool.eq_iff_iff]; simp

/-- A value. -/
structure V where
  k : Int
  u : Nat
  i : Int
  s : ByteArray
def V.agg (x : V) : Value := .agg #[.int .i64 x.k, .int .u64 x.u, .int .i64 x.i, .string x.s]
def V.cells (x : V) : List Value := [.int .i64 x.k, .int .u64 x.u, .int .i64 x.i, .string x.s]
/-- What fits its kind and no text is too long for a slice. -/
def V.fits (x : V) : Prop := (-9223372036854775808 ≤ x.k ∧ x.k < 9223372036854775808) ∧ x.u < 18446744073709551616 ∧ (-9223372036854775808 ≤ x.i ∧ x.i < 9223372036854775808) ∧ x.s.size ≤ 140737488355328
def WS.put (s : WS) (x : V) : WS :=
  if x.k = 0 then s.lay (form x.u) else if x.k = 1 then s.lay (form (zig x.i)) else if x.k = 2 then s.lay [if x.i ≠ 0 then 1 else 0]
  else if x.k = 3 then s.lay [UInt8.ofNat x.u] else if x.k = 4 then s.lay (form x.s.size ++ x.s.data.toList) else if x.k = 5 then s.count x.i else s

end Go.Proofs.Ytmdjicakjljmlaa
