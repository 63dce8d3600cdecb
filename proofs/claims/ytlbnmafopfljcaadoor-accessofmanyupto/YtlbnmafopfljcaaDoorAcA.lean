/-
  held and Set, exactly.
-/
import Derived.Test.YtlbnmafopfljcaaDoorAcI
namespace Go.Proofs.YtlbnmafopfljcaaDoor
open Go.RowKit
namespace Ac
variable {D : DataW Unit} {p : ByteArray} {left : Lit → Bool}
/-- What Set answers and makes. -/
def Se (D : DataW Unit) (x : Bd) (r : Int) (D' : DataW Unit) : Prop :=
  (r = 0 ∧ (bdR x).2 = 0 ∧ D' = D.put (kl x.p x.n) (eR x.s x.v) ∧ (Maps.has D (kl x.p x.n) = true ∨ (Maps.has D (kl x.p x.n) = false ∧ ∃ k, Cn D x.p k ∧ k < 16))) ∨ (r = 194 ∧ (bdR x).2 = 0 ∧ D' = D ∧ Maps.has D (kl x.p x.n) = false ∧ ∃ k, Cn D x.p k ∧ 16 ≤ k) ∨ (r = 130 ∧ (bdR x).2 ≠ 0 ∧ D' = D)
variable {w w' : World} {t b n : Nat} {D' : DataW Unit}
end Ac
end Go.Proofs.YtlbnmafopfljcaaDoor
