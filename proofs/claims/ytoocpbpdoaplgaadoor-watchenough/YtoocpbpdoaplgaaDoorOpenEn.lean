/-
  WatchEnough: what the card asks.
-/
import Derived.Test.YtoocpbpdoaplgaaDoorLawEnough
import Derived.Test.YtoocpbpdoaplgaaDoorOpenW
namespace Go.Proofs.YtoocpbpdoaplgaaDoor
open Go.RowKit
theorem watchEnough_walk (m : Wt.Ev) (v : Value) (ps : List (List Wt.Ev)) (back kind : Int) (path : ByteArray) (most : Int) (w : World) (hG : Wt.Gl m w) (hv : Wt.Nst w v ps) (_ : -9223372036854775808 ≤ back ∧ back ≤ 9223372036854775807) (_ : -9223372036854775808 ≤ kind ∧ kind ≤ 9223372036854775807) (_ : path.size ≤ 140737488351232) (_ : -9223372036854775808 ≤ most ∧ most ≤ 9223372036854775807) :
    Calls Tryd.prog 7 #[v, .int .i64 back, .int .i64 kind, .string path, .int .i64 most] w fun e w' => e = .returned (.bool true) ∧ Below w.heap.size w w' := Wt.En.enough_walk m v ps back kind path most w hG hv
end Go.Proofs.YtoocpbpdoaplgaaDoor
