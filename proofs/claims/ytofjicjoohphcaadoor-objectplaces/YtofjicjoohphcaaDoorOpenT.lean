/-
  The world's shape.
-/
import Derived.Test.YtofjicjoohphcaaDoorObK
import Derived.ProofKit
import Derived.OpenShut
import Derived.SizedLaws
namespace Go.Proofs.YtofjicjoohphcaaDoor
open Go.ChangeShapes Go.WideShapes Go.ChangeAt Go.RowKit
theorem hasM {W : World} (h : W.ShapedOpen Tryd.prog) : L.HasM W := Tryd.laysM146.s1_3 W h
end Go.Proofs.YtofjicjoohphcaaDoor
