/-
  What the document's read answers.
-/
import Derived.Test.YthbbdhhkamccbaaDoorTrmA
namespace Go.Proofs.YthbbdhhkamccbaaDoor
open Go.RowKit
def RdR (B : Nat) (w' : World) (x : T3) (e : Ending) : Prop := ∃ y : Trm, e = .returned (.agg y.cells.toArray) ∧ t3 y = x ∧ OwnS B w' y.vals y.ts ∧ ∀ t ∈ y.ts, t.size ≤ 1048576
end Go.Proofs.YthbbdhhkamccbaaDoor
