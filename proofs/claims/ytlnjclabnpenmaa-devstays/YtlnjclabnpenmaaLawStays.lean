/-
  DevStays.
-/
import Derived.Test.YtlnjclabnpenmaaStayA
import Derived.Test.YtlnjclabnpenmaaStayB
namespace Go.Proofs.Ytlnjclabnpenmaa
open Go.RowKit Go.Maps
theorem devStays_walk (v : Value) (l : List OpD) (v' : Value) (l' : List OpD) (at0 : Int) (w : World) (hv : Ops w v l) (hl : l.length ≤ 140737488355328) (hv' : Ops w v' l') (hl' : l'.length ≤ 140737488355328) (_h : -9223372036854775808 ≤ at0 ∧ at0 < 9223372036854775808) :
    Calls Try.prog 5 #[v, v', .int .i64 at0] w fun e w' => e = .returned (.bool true) ∧ Below w.heap.size w w' := by
  by_cases h : l.length ≤ 400
  · exact devStays_a v l v' l' at0 w hv hl hv' hl' h
  · exact devStays_b v l v' l' at0 w hv hl hv' hl' (by omega)
end Go.Proofs.Ytlnjclabnpenmaa
