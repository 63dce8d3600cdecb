/-
  DevCarried.
-/
import Derived.Test.YtlnjclabnpenmabCarAA
import Derived.Test.YtlnjclabnpenmabCarAB
import Derived.Test.YtlnjclabnpenmabCarBA
import Derived.Test.YtlnjclabnpenmabCarBB
namespace Go.Proofs.Ytlnjclabnpenmab
open Go.RowKit Go.Maps
theorem devCarried_walk (v : Value) (l : List OpD) (v' : Value) (l' : List OpD) (w : World) (hv : Ops w v l) (_hl : l.length ≤ 140737488355328) (hv' : Ops w v' l') (_hl' : l'.length ≤ 140737488355328) :
    Calls Try.prog 3 #[v, v'] w fun e w' => e = .returned (.bool true) ∧ Below w.heap.size w w' := by
  by_cases h : l.length ≤ 400
  · by_cases h' : l'.length ≤ 400
    · exact devCarried_aa v l v' l' w hv hv' h h'
    · exact devCarried_ab v l v' l' w hv hv' h (by omega)
  · by_cases h' : l'.length ≤ 400
    · exact devCarried_ba v l v' l' w hv hv' (by omega) h'
    · exact devCarried_bb v l v' l' w hv hv' (by omega) (by omega)
end Go.Proofs.Ytlnjclabnpenmab
