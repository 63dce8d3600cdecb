/-
  nearer.
-/
import Derived.Test.YtlbnmafopfljcaaDoorAcN
namespace Go.Proofs.YtlbnmafopfljcaaDoor
open Go.RowKit Go.Sort
namespace Ac
/-- Which of two bindings on a line is nearer. -/
def nearB (a b : Bd) : Bool := decide ((if Lib.compareInt (b.p.size : Int) (a.p.size : Int) = 0 then cmS a.n b.n else Lib.compareInt (b.p.size : Int) (a.p.size : Int)) < 0)
end Ac
end Go.Proofs.YtlbnmafopfljcaaDoor
