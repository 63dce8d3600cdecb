/-
  QuantSums holds.
-/
import Derived.Test.YtogicfipdeaffaaDoorCardSums
import Derived.Test.YtogicfipdeaffaaDoorKnownK
namespace Go.Proofs.YtogicfipdeaffaaDoor
theorem quantSums_holds : Rows.QuantSumsCardSaid := quantSums.card known_ok
end Go.Proofs.YtogicfipdeaffaaDoor
