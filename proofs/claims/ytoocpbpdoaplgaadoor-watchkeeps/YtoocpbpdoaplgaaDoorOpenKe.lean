/-
  WatchKeeps: what the card asks.
-/
import Derived.Test.YtoocpbpdoaplgaaDoorLawKeeps
import Derived.Test.YtoocpbpdoaplgaaDoorOpenW
namespace Go.Proofs.YtoocpbpdoaplgaaDoor
open Go.RowKit
theorem watchKeeps_walk (m : Wt.Ev) (x : Int) (v : Value) (ps : List (List Wt.Ev)) (w : World) (hG : Wt.Gl m w) (hx : -9223372036854775808 ≤ x ∧ x ≤ 9223372036854775807) (hv : Wt.Nst w v ps) :
    Calls Tryd.prog 3 #[.int .i64 x, v] w fun e w' => e = .returned (.bool true) ∧ Below w.heap.size w w' := Wt.keeps_walk m x v ps w hG hv hx
end Go.Proofs.YtoocpbpdoaplgaaDoor
