/-
  The tables that the roads read; the laws examples.
-/
import Derived.Test.YtjegjpdeclgegaaDoorPrint
namespace Go.Proofs.YtjegjpdeclgegaaDoor
open Go.RowKit Go.Lib
/-- The tables that the roads read. -/
def Glob (w : World) : Prop := Suf w ∧ TabIs Tryd.prog w "internal/strconv.uint64pow10" .u64 pow10Tab
/-- What is owed: the laws examples stand. -/
def KnownOk : Prop := ∀ w, Glob w → Calls Tryd.prog 5 #[] w fun e w' => e = .returned (.bool true) ∧ Below w.heap.size w w'
end Go.Proofs.YtjegjpdeclgegaaDoor
