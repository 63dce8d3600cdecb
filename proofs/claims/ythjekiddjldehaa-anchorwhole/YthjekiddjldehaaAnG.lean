/-
  A superblock that came in.
-/
import Derived.Test.YthjekiddjldehaaAnV
namespace Go.Proofs.Ythjekiddjldehaa
/-- What came in as a superblock. -/
def Sd (_w : World) (v : Value) (s : Sup) : Prop := v = .agg s.arr
abbrev In6 (i : Int) : Prop := -9223372036854775808 ≤ i ∧ i < 9223372036854775808
/-- Its numbers are whole numbers of 64 bits. -/
structure RgS (s : Sup) : Prop where
  gen : In6 s.gen
  ep : In6 s.ep
  blk : In6 s.blk
  log : In6 s.log
  st : In6 s.st
  pl : In6 s.pl
  rt : In6 s.rt
  cnt : In6 s.cnt
  ver : In6 s.ver
end Go.Proofs.Ythjekiddjldehaa
