/-
  invalid, validTerms: of every term, of every list of terms.
-/
import Derived.Test.YtodfmnbfbndkhaaGreatDoorLVals
namespace Go.Proofs.YtodfmnbfbndkhaaGreatDoor.L
open Go.RowKit
/-- A term: its key, how, its values as they lie, its values. -/
structure Trm where
  key : ByteArray
  how : Int
  vals : Value
  ts : List ByteArray
def Trm.cells (x : Trm) : List Value := [.string x.key, .int .i64 x.how, x.vals]
/-- It lies so in a world. -/
def Trm.At (w : World) (x : Trm) : Prop := Strs w x.vals x.ts ∧ ∀ t ∈ x.ts, t.size ≤ maxLen
theorem Trm.At.below {w w' : World} {x : Trm} (h : x.At w) (hb : Below w.heap.size w w') : x.At w' := ⟨h.1.below hb, h.2⟩
def invalidB (x : Trm) : Bool :=
  !(nameB x.key && (if x.how = 0 ∨ x.how = 1 then valuesB x.ts else if x.how = 2 ∨ x.how = 3 then decide (x.ts.length = 0) else false))
/-- A list of terms, as it lies. -/
def Trms (w : World) (v : Value) (xs : List Trm) : Prop :=
  (∀ x ∈ xs, x.At w) ∧ ∃ a cap, v = .slice a xs.length cap ∧ xs.length ≤ cap ∧ cap ≤ maxLen ∧ (a = none → cap = 0) ∧ (xs ≠ [] → ∃ b off, a = some ⟨b, off, none⟩ ∧ ∀ j, j < xs.length → ∀ i u, (xs.getD j ⟨⟨#[]⟩, 0, .slice none 0 0, []⟩).cells[i]? = some u → w.cell? ⟨b, off + j * 3 + i, none⟩ = some u)
def termsB (xs : List Trm) : Bool := decide (xs.length ≤ 8) && !xs.any invalidB
end Go.Proofs.YtodfmnbfbndkhaaGreatDoor.L
