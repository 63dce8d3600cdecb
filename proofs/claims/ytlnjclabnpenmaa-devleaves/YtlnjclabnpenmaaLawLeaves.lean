/-
  DevLeaves.
-/
import Derived.Test.YtlnjclabnpenmaaLvAA
import Derived.Test.YtlnjclabnpenmaaLvAB
import Derived.Test.YtlnjclabnpenmaaLvBA
import Derived.Test.YtlnjclabnpenmaaLvBB
namespace Go.Proofs.Ytlnjclabnpenmaa
open Go.RowKit Go.Maps
theorem devLeaves_walk (v : Value) (l : List OpD) (v' : Value) (ol : List Bool) (v'' : Value) (fs : List (Int × Int)) (w : World) (hv : Ops w v l) (_hl : l.length ≤ 140737488355328) (hv' : Bools w v' ol) (_hl' : ol.length ≤ 140737488355328) (hv'' : Fts w v'' fs) (hfl : fs.length * 16 ≤ 140737488355328) :
    Calls Try.prog 7 #[v, v', v''] w fun e w' => e = .returned (.bool true) ∧ Below w.heap.size w w' := by
  by_cases h : l.length ≤ 400
  · by_cases h' : ol.length ≤ 20
    · exact devLeaves_aa v l v' ol v'' fs w hv hv' hv'' hfl h h'
    · exact devLeaves_ab v l v' ol v'' fs w hv hv' hv'' hfl h (by omega)
  · by_cases h' : ol.length ≤ 20
    · exact devLeaves_ba v l v' ol v'' fs w hv hv' hv'' hfl (by omega) h'
    · exact devLeaves_bb v l v' ol v'' fs w hv hv' hv'' hfl (by omega) (by omega)
end Go.Proofs.Ytlnjclabnpenmaa
