/-
  A SUPERBLOCK THAT CAME IN, OPENED.
-/
import Derived.Test.YthjekiddjldehaaAnG
import Derived.Test.YthjekiddjldehaaOpen
import Derived.Deep.Slices
import Derived.ChangeSame
namespace Go.Proofs.Ythjekiddjldehaa
open Go.ChangeShapes Go.WideShapes Go.ChangeAt Go.RowKit Go.Deep
theorem cellsOf_super : Try.prog.cellsOf 25 = 9 := by kernel_rfl
theorem cellsOf_mark : Try.prog.cellsOf 23 = 2 := by kernel_rfl
theorem list9 {α : Type} {cs : List α} (h : cs.length = 9) : ∃ c0 c1 c2 c3 c4 c5 c6 c7 c8, cs = [c0, c1, c2, c3, c4, c5, c6, c7, c8] := by
  match cs, h with
  | [c0, c1, c2, c3, c4, c5, c6, c7, c8], _ => exact ⟨c0, c1, c2, c3, c4, c5, c6, c7, c8, rfl⟩
theorem list8 {α : Type} {cs : List α} (h : cs.length = 8) : ∃ c0 c1 c2 c3 c4 c5 c6 c7, cs = [c0, c1, c2, c3, c4, c5, c6, c7] := by
  match cs, h with
  | [c0, c1, c2, c3, c4, c5, c6, c7], _ => exact ⟨c0, c1, c2, c3, c4, c5, c6, c7, rfl⟩
theorem list2 {α : Type} {cs : List α} (h : cs.length = 2) : ∃ c0 c1, cs = [c0, c1] := by
  match cs, h with
  | [c0, c1], _ => exact ⟨c0, c1, rfl⟩
theorem in6_wf {n : Int} (h : (Lit.int .i64 n).wf = true) : In6 n := by
  have := bounds_i64 h
  exact ⟨by omega, by omega⟩
set_option maxRecDepth 100000 in
theorem cells_super {H : Type} {enc : TypeId × Value → H} {W : World} {fuel : Nat} {cs : List Value} {x : DataW H × List MemPlace} {b : Bool}
    (hf : DataW.trod enc Try.prog W 0 (fun _ => true) b fuel 25 cs = some x) : ∃ s : Sup, cs = s.arr.toList ∧ RgS s := by
  obtain ⟨xs, n, _, _, hl, hlen, hfl⟩ := DataW.trod_struct Try.underlying25 hf
  rw [cellsOf_super] at hl
  obtain ⟨y0, y1, y2, y3, y4, y5, y6, y7, rfl⟩ := list8 hlen
  obtain ⟨c0, c1, c2, c3, c4, c5, c6, c7, c8, hcs⟩ := list9 hl
  have e1 : Try.prog.cellsOf 3 = 1 := by kernel_rfl
  have e2 : Try.prog.cellsOf 2 = 1 := by kernel_rfl
  have t0 := hfl 0 _ rfl
  have t1 := hfl 1 _ rfl
  have t2 := hfl 2 _ rfl
  have t3 := hfl 3 _ rfl
  have t4 := hfl 4 _ rfl
  have t5 := hfl 5 _ rfl
  have t6 := hfl 6 _ rfl
  have t7 := hfl 7 _ rfl
  rw [hcs] at t0 t1 t2 t3 t4 t5 t6 t7
  change DataW.trod enc Try.prog W 0 _ b n 2 (List.take (Try.prog.cellsOf 2) [c0, c1, c2, c3, c4, c5, c6, c7, c8]) = some y0 at t0
  change DataW.trod enc Try.prog W 0 _ b n 2 (List.take (Try.prog.cellsOf 2) [c1, c2, c3, c4, c5, c6, c7, c8]) = some y1 at t1
  change DataW.trod enc Try.prog W 0 _ b n 3 (List.take (Try.prog.cellsOf 3) [c2, c3, c4, c5, c6, c7, c8]) = some y2 at t2
  change DataW.trod enc Try.prog W 0 _ b n 3 (List.take (Try.prog.cellsOf 3) [c3, c4, c5, c6, c7, c8]) = some y3 at t3
  change DataW.trod enc Try.prog W 0 _ b n 23 (List.take (Try.prog.cellsOf 23) [c4, c5, c6, c7, c8]) = some y4 at t4
  change DataW.trod enc Try.prog W 0 _ b n 3 (List.take (Try.prog.cellsOf 3) [c6, c7, c8]) = some y5 at t5
  change DataW.trod enc Try.prog W 0 _ b n 2 (List.take (Try.prog.cellsOf 2) [c7, c8]) = some y6 at t6
  change DataW.trod enc Try.prog W 0 _ b n 2 (List.take (Try.prog.cellsOf 2) [c8]) = some y7 at t7
  rw [e1] at t2 t3 t5
  rw [e2] at t0 t1 t6 t7
  rw [cellsOf_mark] at t4
  simp only [List.take] at t0 t1 t2 t3 t4 t5 t6 t7
  obtain ⟨ms, nm, _, _, _, mlen, mfl⟩ := DataW.trod_struct Try.underlying23 t4
  obtain ⟨z0, z1, rfl⟩ := list2 mlen
  have m0 := mfl 0 _ rfl
  have m1 := mfl 1 _ rfl
  change DataW.trod enc Try.prog W 0 _ b nm 2 (List.take (Try.prog.cellsOf 2) [c4, c5]) = some z0 at m0
  change DataW.trod enc Try.prog W 0 _ b nm 3 (List.take (Try.prog.cellsOf 3) [c5]) = some z1 at m1
  rw [e2] at m0
  rw [e1] at m1
  obtain ⟨k0, hk0, _, w0⟩ := DataW.trod_int Try.underlying2 t0
  obtain ⟨k1, hk1, _, w1⟩ := DataW.trod_int Try.underlying2 t1
  obtain ⟨k2, hk2, _, w2⟩ := DataW.trod_int Try.underlying3 t2
  obtain ⟨k3, hk3, _, w3⟩ := DataW.trod_int Try.underlying3 t3
  obtain ⟨k4, hk4, _, w4⟩ := DataW.trod_int Try.underlying2 m0
  obtain ⟨k5, hk5, _, w5⟩ := DataW.trod_int Try.underlying3 m1
  obtain ⟨k6, hk6, _, w6⟩ := DataW.trod_int Try.underlying3 t5
  obtain ⟨k7, hk7, _, w7⟩ := DataW.trod_int Try.underlying2 t6
  obtain ⟨k8, hk8, _, w8⟩ := DataW.trod_int Try.underlying2 t7
  simp only [List.take, List.cons.injEq, and_true] at hk0 hk1 hk2 hk3 hk4 hk5 hk6 hk7 hk8
  subst hk0 hk1 hk2 hk3 hk4 hk5 hk6 hk7 hk8
  exact ⟨⟨k0, k1, k2, k3, k4, k5, k6, k7, k8⟩, hcs, ⟨in6_wf w0, in6_wf w1, in6_wf w2, in6_wf w3, in6_wf w4, in6_wf w5, in6_wf w6, in6_wf w7, in6_wf w8⟩⟩
set_option maxRecDepth 100000 in
theorem open_super {H : Type} {enc : TypeId × Value → H} {W : World} {base : Nat} {v : Value} {d : DataW H} {p : List MemPlace}
    (hv : Value.okWide Try.prog W .any base 25 v) (h : DataW.Trod enc Try.prog W 0 (fun _ => true) true 25 v d p)
    (_hs : ∀ n ∈ d.weights Try.prog 25, n ≤ reachBytes) : ∃ s, Sd W v s ∧ RgS s := by
  obtain ⟨cs, rfl, _⟩ := okWide_struct Try.underlying25 hv
  obtain ⟨fuel, hf⟩ := h
  have hf' : DataW.trod enc Try.prog W 0 (fun _ => true) true fuel 25 cs.toList = some (d, p) := hf
  obtain ⟨s, hs, hr⟩ := cells_super hf'
  refine ⟨s, ?_, hr⟩
  show Value.agg cs = .agg s.arr
  congr 1
  apply Array.ext'
  exact hs
end Go.Proofs.Ythjekiddjldehaa
