/-
  The world's shape.
-/
import Derived.Test.YtjlpcklcnabldaaDoorLawKeeps
import Derived.ProofKit
import Derived.OpenShut
import Derived.SizedLaws
namespace Go.Proofs.YtjlpcklcnabldaaDoor
open Go.ChangeShapes Go.WideShapes Go.ChangeAt Go.RowKit
theorem hasM {W : World} (h : W.ShapedOpen Tryd.prog) : L.HasM W := Tryd.laysM145.s1_3 W h
end Go.Proofs.YtjlpcklcnabldaaDoor
