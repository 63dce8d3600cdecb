/-
  AccessHoldsSixteen's walk.
-/
import Derived.Test.YtiddgagfdijjeaaDoorLawSixteen
import Derived.Test.YtiddgagfdijjeaaDoorOpenP
namespace Go.Proofs.YtiddgagfdijjeaaDoor
open Go.RowKit
theorem accessHoldsSixteen_walk (p : ByteArray) (g : Int) (w : World) (hm : L.HasM w) (hp : p.size ≤ 140737488351232) (hg : -9223372036854775808 ≤ g ∧ g ≤ 9223372036854775807) :
    Calls Tryd.prog 4 #[.string p, .int .i64 g] w fun e w' => e = .returned (.bool true) ∧ Below w.heap.size w w' := Ac.sixteen p g w hm hp hg
end Go.Proofs.YtiddgagfdijjeaaDoor
