/-
  WatchPieces: what the card asks.
-/
import Derived.Test.YtoocpbpdoaplgaaDoorLawPieces
import Derived.Test.YtoocpbpdoaplgaaDoorOpenW
namespace Go.Proofs.YtoocpbpdoaplgaaDoor
open Go.RowKit
theorem watchPieces_walk (m : Wt.Ev) (x : Int) (v : Value) (ps : List (List Wt.Ev)) (back : Int) (path : ByteArray) (most : Int) (w : World) (hG : Wt.Gl m w) (hx : -9223372036854775808 ≤ x ∧ x ≤ 9223372036854775807) (hv : Wt.Nst w v ps) (hb : -9223372036854775808 ≤ back ∧ back ≤ 9223372036854775807) (_ : path.size ≤ 140737488351232) (hm : -9223372036854775808 ≤ most ∧ most ≤ 9223372036854775807) :
    Calls Tryd.prog 4 #[.int .i64 x, v, .int .i64 back, .string path, .int .i64 most] w fun e w' => e = .returned (.bool true) ∧ Below w.heap.size w w' := Wt.pieces_walk m x v ps back path most w hG hv hx hb hm
end Go.Proofs.YtoocpbpdoaplgaaDoor
