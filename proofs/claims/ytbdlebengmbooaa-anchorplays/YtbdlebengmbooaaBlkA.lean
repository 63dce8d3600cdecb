/-
  The statements' own: block.
-/
import Derived.Test.YtbdlebengmbooaaHlA
import Derived.Test.YtbdlebengmbooaaMsk
namespace Go.Proofs.Ytbdlebengmbooaa
open Go.RowKit Go.Maps
/-- A step. -/
structure OpD where
  two : Bool
  kind : Int
  blk : Int
  n : Int
  len : Int
  fill : UInt8
  bv : Value
  bs : List UInt8
  fv : Value
  fs : List (Int × Int)
def OpD.cells (o : OpD) : List Value := [.bool o.two, .int .i64 o.kind, .int .i64 o.blk, .int .i64 o.n, .int .i64 o.len, .int .u8 (c8 o.fill), o.bv, o.fv]
/-- What block makes. -/
def blkB (o : OpD) : List UInt8 :=
  let m := (o.len % 1024).toNat
  if 100 < m then (((List.replicate m o.fill).set 0 (o.fill + 1)).set 100 (o.fill + 2)).set (m - 1) (o.fill + 3) else List.replicate m o.fill
theorem blkB_length (o : OpD) : (blkB o).length ≤ 1023 := by
  have : (o.len % 1024).toNat ≤ 1023 := by omega
  unfold blkB
  simp only
  split
  · simp only [List.length_set, List.length_replicate]; exact this
  · rw [List.length_replicate]; exact this
theorem set_cells (l : List UInt8) (k : Nat) (c : UInt8) : (cells8 l).toArray.setIfInBounds k (.int .u8 (c8 c)) = (cells8 (l.set k c)).toArray := by
  apply Array.ext'
  simp only [Array.toList_setIfInBounds]
  unfold cells8
  rw [List.map_set]
end Go.Proofs.Ytbdlebengmbooaa
