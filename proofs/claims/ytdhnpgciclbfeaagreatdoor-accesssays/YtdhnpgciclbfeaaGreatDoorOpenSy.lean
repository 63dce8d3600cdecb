/-
  What the card of AccessSays asks.
-/
import Derived.Test.YtdhnpgciclbfeaaGreatDoorOpenP
import Derived.Test.YtdhnpgciclbfeaaGreatDoorLawSays
namespace Go.Proofs.YtdhnpgciclbfeaaGreatDoor
open Go.RowKit
theorem accessSays_walk (v : Value) (l : List Ac.Sp) (s p : ByteArray) (w : World) (hm : L.HasM w) (hv : Row Ac.kSp w v l) (hf : ∀ o ∈ l, o.Fit) (_ : s.size ≤ 140737488351232) (_ : p.size ≤ 140737488351232) :
    Calls Tryz.prog 4 #[v, .string s, .string p] w fun e w' => e = .returned (.bool true) ∧ Below w.heap.size w w' := Ac.all_says v l s p w hm hv hf
end Go.Proofs.YtdhnpgciclbfeaaGreatDoor
