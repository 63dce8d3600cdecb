/-
  AccessGoesDown.
-/
import Derived.Test.YtdhnpgciclbfeaaGreatDoorAcU
import Derived.Test.YtdhnpgciclbfeaaGreatDoorScG
namespace Go.Proofs.YtdhnpgciclbfeaaGreatDoor
open Go.RowKit
namespace Ac
def kSp : Kd Sp := ⟨Sp.cells, 10, 40, 37, 128, ⟨false, 0, 0, Bd.z, ⟨#[]⟩, ⟨#[]⟩, ⟨#[]⟩⟩⟩
theorem sp_at {w : World} {a : Option Addr} {n c : Nat} {l : List Sp} (H : Row kSp w (.slice a n c) l) (k : Nat) (hk : k < l.length) : ∃ b off, a = some ⟨b, off, none⟩ ∧ ∀ j y, ((l.getD k kSp.z).cells)[j]? = some y → w.cell? ⟨b, off + k * 10 + j, none⟩ = some y := H.at k hk
end Ac
end Go.Proofs.YtdhnpgciclbfeaaGreatDoor
