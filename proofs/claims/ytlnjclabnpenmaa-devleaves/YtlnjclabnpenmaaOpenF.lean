/-
  A SLICE OF FATES THAT CAME IN, OPENED.
-/
import Derived.Test.YtlnjclabnpenmaaOpenO
namespace Go.Proofs.Ytlnjclabnpenmaa
open Go.ChangeShapes Go.WideShapes Go.ChangeAt Go.RowKit Go.Deep
set_option maxRecDepth 100000 in
theorem open_fates {H : Type} {enc : TypeId × Value → H} {W : World} {base : Nat} {v : Value} {d : DataW H} {p : List MemPlace}
    (hv : Value.okWide Try.prog W .any base 45 v) (h : DataW.Trod enc Try.prog W 0 (fun _ => true) true 45 v d p)
    (hs : ∀ n ∈ d.weights Try.prog 45, n ≤ reachBytes) : ∃ l, Fts W v l ∧ l.length * 16 ≤ 140737488355328 := by
  obtain ⟨a0, len0, cap0, rfl⟩ := okWide_slice Try.underlying45 hv
  obtain ⟨fuel, hf⟩ := h
  obtain ⟨u, fs, e, hF, hl⟩ := fates_in hf hs
  simp [Value.cells] at e
  subst e
  exact ⟨fs, hF, by omega⟩
end Go.Proofs.Ytlnjclabnpenmaa
