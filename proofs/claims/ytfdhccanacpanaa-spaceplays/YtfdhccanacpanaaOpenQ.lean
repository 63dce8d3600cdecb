/-
  A SLICE OF STEPS THAT CAME IN, OPENED.
-/
import Derived.Test.YtfdhccanacpanaaSpH
import Derived.Test.YtfdhccanacpanaaOpen
import Derived.Deep.Slices
import Derived.ChangeSame
namespace Go.Proofs.Ytfdhccanacpanaa
open Go.ChangeShapes Go.WideShapes Go.ChangeAt Go.RowKit Go.Deep
theorem weights_all_mem {H : Type} {P : Program} {e : TypeId} {d : DataW H} {l : List (DataW H)} (h : d ∈ l) {n : Nat} (hn : n ∈ d.weights P e) : n ∈ DataW.weightsAll P e l := by
  induction l with
  | nil => simp at h
  | cons c l ih =>
    simp only [DataW.weightsAll, List.mem_append]
    rcases List.mem_cons.1 h with rfl | h
    · exact Or.inl hn
    · exact Or.inr (ih h)
theorem cells_at {W : World} {a : Addr} {n : Nat} {cs : List Value} (h : W.cells? 0 a n = some cs) (j : Nat) (y : Value) (hy : cs[j]? = some y) : W.cell? (a.add j) = some y := by
  obtain ⟨_, h2, h3⟩ := World.cells?_some h
  have hj : j < cs.length := by
    rcases Nat.lt_or_ge j cs.length with q | q
    · exact q
    · rw [List.getElem?_eq_none q] at hy; simp at hy
  rw [h3 j (by omega)]; exact hy
theorem cellsOf_op : Try.prog.cellsOf 38 = 3 := by kernel_rfl
theorem bytesOf_op : Try.prog.bytesOf 38 = 24 := by kernel_rfl
theorem cellsOf_int : Try.prog.cellsOf 3 = 1 := by kernel_rfl
theorem list3 {α : Type} {cs : List α} (h : cs.length = 3) : ∃ c0 c1 c2, cs = [c0, c1, c2] := by
  match cs, h with
  | [c0, c1, c2], _ => exact ⟨c0, c1, c2, rfl⟩
set_option maxRecDepth 100000 in
theorem op_in {H : Type} {enc : TypeId × Value → H} {W : World} {fuel : Nat} {cs : List Value} {x : DataW H × List MemPlace} (h : DataW.trod enc Try.prog W 0 (fun _ => true) true fuel 38 cs = some x) :
    ∃ y : OpS, cs = y.cells ∧ (-9223372036854775808 ≤ y.block ∧ y.block < 9223372036854775808) := by
  obtain ⟨xs, n, _, rfl, hl, hlen, hf⟩ := DataW.trod_struct Try.underlying38 h
  rw [cellsOf_op] at hl
  obtain ⟨y0, y1, y2, rfl⟩ := list3 hlen
  obtain ⟨c0, c1, c2, rfl⟩ := list3 hl
  have e1 : Try.prog.cellsOf 4 = 1 := by kernel_rfl
  have t0 := hf 0 _ rfl
  have t1 := hf 1 _ rfl
  have t2 := hf 2 _ rfl
  change DataW.trod enc Try.prog W 0 _ true n 4 (List.take (Try.prog.cellsOf 4) [c0, c1, c2]) = some y0 at t0
  change DataW.trod enc Try.prog W 0 _ true n 3 (List.take (Try.prog.cellsOf 3) [c1, c2]) = some y1 at t1
  change DataW.trod enc Try.prog W 0 _ true n 3 (List.take (Try.prog.cellsOf 3) [c2]) = some y2 at t2
  rw [cellsOf_int] at t1 t2
  rw [e1] at t0
  obtain ⟨b0, hb0, _⟩ := DataW.trod_bool Try.underlying4 t0
  obtain ⟨k1, hk1, _, _⟩ := DataW.trod_int Try.underlying3 t1
  obtain ⟨k2, hk2, _, w2⟩ := DataW.trod_int Try.underlying3 t2
  have bd := bounds_i64 w2
  simp only [List.take, List.cons.injEq, and_true] at hb0 hk1 hk2
  subst hb0 hk1 hk2
  exact ⟨⟨b0, k1, k2⟩, rfl, bd.1, by have := bd.2; show k2 < _; omega⟩
set_option maxRecDepth 100000 in
theorem open_steps {H : Type} {enc : TypeId × Value → H} {W : World} {base : Nat} {v : Value} {d : DataW H} {p : List MemPlace}
    (hv : Value.okWide Try.prog W .any base 35 v) (h : DataW.Trod enc Try.prog W 0 (fun _ => true) true 35 v d p)
    (hs : ∀ n ∈ d.weights Try.prog 35, n ≤ reachBytes) : ∃ l, OpsS W v l ∧ l.length ≤ 140737488355328 := by
  obtain ⟨a0, len0, cap0, rfl⟩ := okWide_slice Try.underlying35 hv
  obtain ⟨fuel, hf⟩ := h
  rcases open_slice Try.underlying35 hf with ⟨hcs, _⟩ | ⟨x, l, c, m, n, D, Pl, hcs, _, hl, hm, hmm, hx, hrow⟩
  · simp [Value.cells] at hcs
    obtain ⟨rfl, rfl, rfl⟩ := hcs
    exact ⟨[], ⟨by simp, none, 0, rfl, by simp, by decide, fun h => absurd rfl h⟩, by simp⟩
  · simp [Value.cells] at hcs
    obtain ⟨rfl, rfl, rfl⟩ := hcs
    simp only [if_true] at hmm
    subst hmm
    have hd := congrArg Prod.fst hx
    simp only at hd
    rw [hd] at hs
    simp only [DataW.weights, Try.underlying35] at hs
    have key : ∀ i, i < len0 → ∃ y : OpS, (-9223372036854775808 ≤ y.block ∧ y.block < 9223372036854775808) ∧ ∀ j z, y.cells[j]? = some z → W.cell? ((x.add (i * 3)).add j) = some z := fun i hi => by
      obtain ⟨cs', hc, ht⟩ := hrow i (by omega)
      rw [cellsOf_op] at hc
      obtain ⟨y, rfl, hy⟩ := op_in ht
      exact ⟨y, hy, fun j z hz => cells_at hc j z hz⟩
    haveI : Inhabited OpS := ⟨⟨false, 0, 0⟩⟩
    obtain ⟨f, hf2⟩ := choose_lt key
    have hlen : ((List.range len0).map f).length = len0 := by simp
    refine ⟨(List.range len0).map f, ⟨fun y hy => ?_, some x, _, by rw [hlen], by rw [hlen]; exact hl, hm, fun hne => ?_⟩, ?_⟩
    · obtain ⟨i, hi, rfl⟩ := List.mem_map.1 hy
      exact (hf2 i (List.mem_range.1 hi)).1
    · have h0 : 0 < len0 := by
        rcases Nat.eq_zero_or_pos len0 with e | e
        · subst e; exact absurd rfl hne
        · exact e
      obtain ⟨b, off, spot⟩ := x
      have hspot : spot = none := by
        have h1 := World.cell?_spot ((hf2 0 h0).2 0 _ rfl)
        simpa [Addr.add] using h1
      subst hspot
      refine ⟨b, off, rfl, fun j y hj i u hu => ?_⟩
      have hjl : j < len0 := by have := (List.getElem?_eq_some_iff.1 hj).1; rw [hlen] at this; exact this
      have ey : y = f j := by simp [hjl] at hj; exact hj.symm
      subst ey
      have := (hf2 j hjl).2 i u hu
      rw [add_plain, add_plain] at this
      exact this
    · have := hs _ (List.mem_cons_self)
      rw [bytesOf_op] at this
      simp only [List.length_map, List.length_range, reachBytes] at this
      rw [hlen]; omega
end Go.Proofs.Ytfdhccanacpanaa
