/-
  A GROUP THAT CAME IN, OPENED.
-/
import Derived.Test.YtfljbipnjfciaabLawBlocks
import Derived.Test.YtfljbipnjfciaabOpen
import Derived.Deep.Slices
import Derived.ChangeSame
namespace Go.Proofs.Ytfljbipnjfciaab
open Go.ChangeShapes Go.WideShapes Go.ChangeAt Go.RowKit Go.Deep
theorem cellsOf_group : Try.prog.cellsOf 23 = 5 := by kernel_rfl
theorem list5 {α : Type} {cs : List α} (h : cs.length = 5) : ∃ c0 c1 c2 c3 c4, cs = [c0, c1, c2, c3, c4] := by
  match cs, h with
  | [c0, c1, c2, c3, c4], _ => exact ⟨c0, c1, c2, c3, c4, rfl⟩
set_option maxRecDepth 100000 in
theorem open_group {H : Type} {enc : TypeId × Value → H} {W : World} {base : Nat} {v : Value} {d : DataW H} {p : List MemPlace}
    (hv : Value.okWide Try.prog W .any base 23 v) (h : DataW.Trod enc Try.prog W 0 (fun _ => true) true 23 v d p)
    (_hs : ∀ n ∈ d.weights Try.prog 23, n ≤ reachBytes) : ∃ g, Gd W v g ∧ True := by
  obtain ⟨cs, rfl, _⟩ := okWide_struct Try.underlying23 hv
  obtain ⟨fuel, hf⟩ := h
  have hf' : DataW.trod enc Try.prog W 0 (fun _ => true) true fuel 23 cs.toList = some (d, p) := hf
  obtain ⟨xs, n, _, _, hl, hlen, hfl⟩ := DataW.trod_struct Try.underlying23 hf'
  rw [cellsOf_group] at hl
  obtain ⟨y0, y1, y2, y3, y4, rfl⟩ := list5 hlen
  obtain ⟨c0, c1, c2, c3, c4, hcs⟩ := list5 hl
  have e1 : Try.prog.cellsOf 3 = 1 := by kernel_rfl
  have e2 : Try.prog.cellsOf 2 = 1 := by kernel_rfl
  have t0 := hfl 0 _ rfl
  have t1 := hfl 1 _ rfl
  have t2 := hfl 2 _ rfl
  have t3 := hfl 3 _ rfl
  have t4 := hfl 4 _ rfl
  rw [hcs] at t0 t1 t2 t3 t4
  change DataW.trod enc Try.prog W 0 _ true n 2 (List.take (Try.prog.cellsOf 2) [c0, c1, c2, c3, c4]) = some y0 at t0
  change DataW.trod enc Try.prog W 0 _ true n 2 (List.take (Try.prog.cellsOf 2) [c1, c2, c3, c4]) = some y1 at t1
  change DataW.trod enc Try.prog W 0 _ true n 3 (List.take (Try.prog.cellsOf 3) [c2, c3, c4]) = some y2 at t2
  change DataW.trod enc Try.prog W 0 _ true n 3 (List.take (Try.prog.cellsOf 3) [c3, c4]) = some y3 at t3
  change DataW.trod enc Try.prog W 0 _ true n 3 (List.take (Try.prog.cellsOf 3) [c4]) = some y4 at t4
  rw [e1] at t2 t3 t4
  rw [e2] at t0 t1
  obtain ⟨k0, hk0, _, _⟩ := DataW.trod_int Try.underlying2 t0
  obtain ⟨k1, hk1, _, _⟩ := DataW.trod_int Try.underlying2 t1
  obtain ⟨k2, hk2, _, _⟩ := DataW.trod_int Try.underlying3 t2
  obtain ⟨k3, hk3, _, _⟩ := DataW.trod_int Try.underlying3 t3
  obtain ⟨k4, hk4, _, _⟩ := DataW.trod_int Try.underlying3 t4
  simp only [List.take, List.cons.injEq, and_true] at hk0 hk1 hk2 hk3 hk4
  subst hk0 hk1 hk2 hk3 hk4
  refine ⟨⟨k0, k1, k2, k3, k4⟩, ?_, trivial⟩
  show Value.agg cs = .agg #[.int .i64 k0, .int .i64 k1, .int .i64 k2, .int .i64 k3, .int .i64 k4]
  congr 1
  apply Array.ext'
  rw [hcs]
end Go.Proofs.Ytfljbipnjfciaab
