/-
  The tables that the roads read; the laws examples.
-/
import Derived.Test.YtmkdmfjdhajiaaaGreatDoorPrint
namespace Go.Proofs.YtmkdmfjdhajiaaaGreatDoor
open Go.RowKit Go.Lib
/-- The tables that the roads read. -/
def Glob (w : World) : Prop := Suf w ∧ TabIs Tryz.prog w "internal/strconv.uint64pow10" .u64 pow10Tab
/-- What is owed: the laws examples stand. -/
def KnownOk : Prop := ∀ w, Glob w → Calls Tryz.prog 4 #[] w fun e w' => e = .returned (.bool true) ∧ Below w.heap.size w w'
end Go.Proofs.YtmkdmfjdhajiaaaGreatDoor
