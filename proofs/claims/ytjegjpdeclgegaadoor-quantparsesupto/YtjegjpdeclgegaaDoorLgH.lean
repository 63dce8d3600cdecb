/-
  The document's Scale.
-/
import Derived.Test.YtjegjpdeclgegaaDoorLgG
namespace Go.Proofs.YtjegjpdeclgegaaDoor
open Go.RowKit Go.Lib
open Go.Sort (grow)
namespace Lg
theorem dg_none {x : Nat} (h : x = 0) : (dg x).length = 0 := by rw [h, dg_zero]; rfl
theorem dg_some {x : Nat} (h : 0 < x) : 0 < (dg x).length := by rw [dg_pos h]; simp
end Lg
end Go.Proofs.YtjegjpdeclgegaaDoor
