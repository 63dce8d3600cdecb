/-
  The law ObjectNormal, walked whole.
-/
import Derived.Test.YtehgnbgbmicheaaGreatDoorLawNormal
import Derived.Test.YtehgnbgbmicheaaGreatDoorNxJ
namespace Go.Proofs.YtehgnbgbmicheaaGreatDoor
open Go.RowKit
theorem objectNormal_walk (o : Ob) (ou opv : Value) (vt : Value) (ts : List Int) (vc : Value) (cs : List Int) (w : World) (hm : L.HasM w)
    (ho : ObV w ou opv o ∧ o.Fit ∧ o.ls.length * 32 ≤ 140737488355328 ∧ o.ps.length * 64 ≤ 140737488355328 ∧ ∀ y ∈ o.ps, y.r.length * 24 ≤ 140737488355328 ∧ y.l.length * 24 ≤ 140737488355328) (ht : Row kI w vt ts) (hti : InR ts) (hc : Row kJ w vc cs) (hci : InR cs) :
    Calls Tryz.prog 3 #[o.val ou opv, vt, vc] w fun e w' => e = .returned (.bool true) ∧ Below w.heap.size w w' :=
  Nx.objectNormal_core Nx.shuffled_any o ou opv vt ts vc cs w hm ho ht hti hc hci
end Go.Proofs.YtehgnbgbmicheaaGreatDoor
