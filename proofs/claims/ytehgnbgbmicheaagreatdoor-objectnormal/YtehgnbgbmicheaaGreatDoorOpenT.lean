/-
  The world's shape.
-/
import Derived.Test.YtehgnbgbmicheaaGreatDoorObK
import Derived.ProofKit
import Derived.OpenShut
import Derived.SizedLaws
namespace Go.Proofs.YtehgnbgbmicheaaGreatDoor
open Go.ChangeShapes Go.WideShapes Go.ChangeAt Go.RowKit
theorem hasM {W : World} (h : W.ShapedOpen Tryz.prog) : L.HasM W := Tryz.laysM146.s1_3 W h
end Go.Proofs.YtehgnbgbmicheaaGreatDoor
