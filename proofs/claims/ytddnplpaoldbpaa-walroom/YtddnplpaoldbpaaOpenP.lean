/-
  A SLICE OF STEPS THAT CAME IN, OPENED.
-/
import Derived.Test.YtddnplpaoldbpaaOpsW
import Derived.Test.YtddnplpaoldbpaaOpen
import Derived.Deep.Slices
import Derived.ChangeSame
import Derived.ShutString
namespace Go.Proofs.Ytddnplpaoldbpaa
open Go.ChangeShapes Go.WideShapes Go.ChangeAt Go.RowKit Go.Deep
theorem weights_all_mem {H : Type} {P : Program} {e : TypeId} {d : DataW H} {l : List (DataW H)} (h : d ∈ l) {n : Nat} (hn : n ∈ d.weights P e) : n ∈ DataW.weightsAll P e l := by
  induction l with
  | nil => simp at h
  | cons c l ih =>
    simp only [DataW.weightsAll, List.mem_append]
    rcases List.mem_cons.1 h with rfl | h
    · exact Or.inl hn
    · exact Or.inr (ih h)
theorem cells_at {W : World} {a : Addr} {n : Nat} {cs : List Value} (h : W.cells? 0 a n = some cs) (j : Nat) (y : Value) (hy : cs[j]? = some y) : W.cell? (a.add j) = some y := by
  obtain ⟨_, h2, h3⟩ := World.cells?_some h
  have hj : j < cs.length := by
    rcases Nat.lt_or_ge j cs.length with q | q
    · exact q
    · rw [List.getElem?_eq_none q] at hy; simp at hy
  rw [h3 j (by omega)]; exact hy
theorem slice_in {H : Type} {enc : TypeId × Value → H} {W : World} {fuel : Nat} {t e : TypeId} {c : Value} {x : DataW H × List MemPlace} (ht : Try.prog.underlying t = some (.slice e)) (hf : DataW.trod enc Try.prog W 0 (fun _ => true) true fuel t [c] = some x) : ∃ a n k, c = .slice a n k := by
  rcases open_slice ht hf with ⟨hcs, _⟩ | ⟨x, len0, cap0, m, n, D, Pl, hcs, _⟩
  · simp only [List.cons.injEq, and_true] at hcs
    exact ⟨_, _, _, hcs⟩
  · simp only [List.cons.injEq, and_true] at hcs
    exact ⟨_, _, _, hcs⟩
theorem cellsOf_op : Try.prog.cellsOf 44 = 12 := by kernel_rfl
theorem bytesOf_op : Try.prog.bytesOf 44 = 136 := by kernel_rfl
theorem cellsOf_int : Try.prog.cellsOf 3 = 1 := by kernel_rfl
theorem list11 {α : Type} {cs : List α} (h : cs.length = 11) : ∃ c0 c1 c2 c3 c4 c5 c6 c7 c8 c9 c10, cs = [c0, c1, c2, c3, c4, c5, c6, c7, c8, c9, c10] := by
  match cs, h with
  | [c0, c1, c2, c3, c4, c5, c6, c7, c8, c9, c10], _ => exact ⟨c0, c1, c2, c3, c4, c5, c6, c7, c8, c9, c10, rfl⟩
theorem list12 {α : Type} {cs : List α} (h : cs.length = 12) : ∃ c0 c1 c2 c3 c4 c5 c6 c7 c8 c9 c10 c11, cs = [c0, c1, c2, c3, c4, c5, c6, c7, c8, c9, c10, c11] := by
  match cs, h with
  | [c0, c1, c2, c3, c4, c5, c6, c7, c8, c9, c10, c11], _ => exact ⟨c0, c1, c2, c3, c4, c5, c6, c7, c8, c9, c10, c11, rfl⟩
set_option maxRecDepth 100000 in
theorem op_in {H : Type} {enc : TypeId × Value → H} {W : World} {fuel : Nat} {cs : List Value} {x : DataW H × List MemPlace} (h : DataW.trod enc Try.prog W 0 (fun _ => true) true fuel 44 cs = some x)
    (hs : ∀ n ∈ x.1.weights Try.prog 44, n ≤ reachBytes) : ∃ y : OpW, cs = y.cells ∧ y.text.size ≤ 140737488355328 := by
  obtain ⟨xs, n, _, rfl, hl, hlen, hf⟩ := DataW.trod_struct Try.underlying44 h
  rw [cellsOf_op] at hl
  obtain ⟨y0, y1, y2, y3, y4, y5, y6, y7, y8, y9, y10, rfl⟩ := list11 hlen
  obtain ⟨c0, c1, c2, c3, c4, c5, c6, c7, c8, c9, c10, c11, rfl⟩ := list12 hl
  have e1 : Try.prog.cellsOf 4 = 1 := by kernel_rfl
  have e2 : Try.prog.cellsOf 9 = 1 := by kernel_rfl
  have e3 : Try.prog.cellsOf 41 = 1 := by kernel_rfl
  have e4 : Try.prog.cellsOf 42 = 1 := by kernel_rfl
  have e5 : Try.prog.cellsOf 30 = 2 := by kernel_rfl
  have e6 : Try.prog.cellsOf 2 = 1 := by kernel_rfl
  have t0 := hf 0 _ rfl
  have t1 := hf 1 _ rfl
  have t2 := hf 2 _ rfl
  have t3 := hf 3 _ rfl
  have t4 := hf 4 _ rfl
  have t5 := hf 5 _ rfl
  have t6 := hf 6 _ rfl
  have t7 := hf 7 _ rfl
  have t8 := hf 8 _ rfl
  have t9 := hf 9 _ rfl
  have t10 := hf 10 _ rfl
  change DataW.trod enc Try.prog W 0 _ true n 3 (List.take (Try.prog.cellsOf 3) [c0, c1, c2, c3, c4, c5, c6, c7, c8, c9, c10, c11]) = some y0 at t0
  change DataW.trod enc Try.prog W 0 _ true n 4 (List.take (Try.prog.cellsOf 4) [c1, c2, c3, c4, c5, c6, c7, c8, c9, c10, c11]) = some y1 at t1
  change DataW.trod enc Try.prog W 0 _ true n 9 (List.take (Try.prog.cellsOf 9) [c2, c3, c4, c5, c6, c7, c8, c9, c10, c11]) = some y2 at t2
  change DataW.trod enc Try.prog W 0 _ true n 3 (List.take (Try.prog.cellsOf 3) [c3, c4, c5, c6, c7, c8, c9, c10, c11]) = some y3 at t3
  change DataW.trod enc Try.prog W 0 _ true n 3 (List.take (Try.prog.cellsOf 3) [c4, c5, c6, c7, c8, c9, c10, c11]) = some y4 at t4
  change DataW.trod enc Try.prog W 0 _ true n 30 (List.take (Try.prog.cellsOf 30) [c5, c6, c7, c8, c9, c10, c11]) = some y5 at t5
  change DataW.trod enc Try.prog W 0 _ true n 2 (List.take (Try.prog.cellsOf 2) [c7, c8, c9, c10, c11]) = some y6 at t6
  change DataW.trod enc Try.prog W 0 _ true n 3 (List.take (Try.prog.cellsOf 3) [c8, c9, c10, c11]) = some y7 at t7
  change DataW.trod enc Try.prog W 0 _ true n 3 (List.take (Try.prog.cellsOf 3) [c9, c10, c11]) = some y8 at t8
  change DataW.trod enc Try.prog W 0 _ true n 41 (List.take (Try.prog.cellsOf 41) [c10, c11]) = some y9 at t9
  change DataW.trod enc Try.prog W 0 _ true n 42 (List.take (Try.prog.cellsOf 42) [c11]) = some y10 at t10
  rw [cellsOf_int] at t0 t3 t4 t7 t8
  rw [e1] at t1
  rw [e2] at t2
  rw [e5] at t5
  rw [e6] at t6
  rw [e3] at t9
  rw [e4] at t10
  have hw2 : ∀ m ∈ y2.1.weights Try.prog 9, m ≤ reachBytes := fun m hm => hs m (by
    simp only [DataW.weights, Try.underlying44]
    exact DataW.weights_mem_each (j := 2) rfl rfl m hm)
  obtain ⟨z0, z1, m, hx, hlz, m0, m1⟩ := trod_struct2 Try.underlying30 t5
  change DataW.trod _ Try.prog W 0 _ true m 2 (List.take (Try.prog.cellsOf 2) [c5, c6]) = some z0 at m0
  change DataW.trod _ Try.prog W 0 _ true m 3 (List.take (Try.prog.cellsOf 3) [c6]) = some z1 at m1
  rw [e6] at m0
  rw [cellsOf_int] at m1
  obtain ⟨k0, hk0, _, _⟩ := DataW.trod_int Try.underlying3 t0
  obtain ⟨b1, hb1, _⟩ := DataW.trod_bool Try.underlying4 t1
  obtain ⟨k3, hk3, _, _⟩ := DataW.trod_int Try.underlying3 t3
  obtain ⟨k4, hk4, _, _⟩ := DataW.trod_int Try.underlying3 t4
  obtain ⟨k5, hk5, _, _⟩ := DataW.trod_int Try.underlying2 m0
  obtain ⟨k6, hk6, _, _⟩ := DataW.trod_int Try.underlying3 m1
  obtain ⟨k7, hk7, _, _⟩ := DataW.trod_int Try.underlying2 t6
  obtain ⟨k8, hk8, _, _⟩ := DataW.trod_int Try.underlying3 t7
  obtain ⟨k9, hk9, _, _⟩ := DataW.trod_int Try.underlying3 t8
  obtain ⟨a10, n10, q10, h10⟩ := slice_in Try.underlying41 t9
  obtain ⟨a11, n11, q11, h11⟩ := slice_in Try.underlying42 t10
  obtain ⟨tx, htx, hy2, _⟩ := DataW.trod_string Try.underlying9 t2
  have sz : tx.size ≤ 140737488355328 := by
    rw [hy2] at hw2
    have := hw2 tx.data.toList.length (by simp [DataW.weights])
    rw [str_size] at this
    simp only [reachBytes] at this
    omega
  simp only [List.take, List.cons.injEq, and_true] at hk0 hb1 htx hk3 hk4 hk5 hk6 hk7 hk8 hk9
  subst hk0 hb1 htx hk3 hk4 hk5 hk6 hk7 hk8 hk9 h10 h11
  exact ⟨⟨k0, b1, tx, k3, k4, k5, k6, k7, k8, k9, a10, n10, q10, a11, n11, q11⟩, rfl, sz⟩
set_option maxRecDepth 100000 in
theorem open_steps {H : Type} {enc : TypeId × Value → H} {W : World} {base : Nat} {v : Value} {d : DataW H} {p : List MemPlace}
    (hv : Value.okWide Try.prog W .any base 40 v) (h : DataW.Trod enc Try.prog W 0 (fun _ => true) true 40 v d p)
    (hs : ∀ n ∈ d.weights Try.prog 40, n ≤ reachBytes) : ∃ l, OpsW W v l ∧ l.length ≤ 1099511627776 := by
  obtain ⟨a0, len0, cap0, rfl⟩ := okWide_slice Try.underlying40 hv
  obtain ⟨fuel, hf⟩ := h
  rcases open_slice Try.underlying40 hf with ⟨hcs, _⟩ | ⟨x, l, c, m, n, D, Pl, hcs, _, hl, hm, hmm, hx, hrow⟩
  · simp [Value.cells] at hcs
    obtain ⟨rfl, rfl, rfl⟩ := hcs
    exact ⟨[], ⟨by simp, none, 0, rfl, by simp, by decide, fun h => absurd rfl h⟩, by simp⟩
  · simp [Value.cells] at hcs
    obtain ⟨rfl, rfl, rfl⟩ := hcs
    simp only [if_true] at hmm
    subst hmm
    have hd := congrArg Prod.fst hx
    simp only at hd
    rw [hd] at hs
    simp only [DataW.weights, Try.underlying40] at hs
    have key : ∀ i, i < len0 → ∃ y : OpW, y.text.size ≤ 140737488355328 ∧ ∀ j z, y.cells[j]? = some z → W.cell? ((x.add (i * 12)).add j) = some z := fun i hi => by
      obtain ⟨cs', hc, ht⟩ := hrow i (by omega)
      rw [cellsOf_op] at hc
      obtain ⟨y, rfl, hy⟩ := op_in ht (fun n hn => hs n (by
        simp only [List.mem_cons, List.mem_append]
        exact Or.inr (Or.inl (weights_all_mem (List.mem_map.2 ⟨i, List.mem_range.2 hi, rfl⟩) hn))))
      exact ⟨y, hy, fun j z hz => cells_at hc j z hz⟩
    haveI : Inhabited OpW := ⟨⟨0, false, ⟨#[]⟩, 0, 0, 0, 0, 0, 0, 0, none, 0, 0, none, 0, 0⟩⟩
    obtain ⟨f, hf2⟩ := choose_lt key
    have hlen : ((List.range len0).map f).length = len0 := by simp
    refine ⟨(List.range len0).map f, ⟨fun y hy => ?_, some x, _, by rw [hlen], by rw [hlen]; exact hl, hm, fun hne => ?_⟩, ?_⟩
    · obtain ⟨i, hi, rfl⟩ := List.mem_map.1 hy
      exact (hf2 i (List.mem_range.1 hi)).1
    · have h0 : 0 < len0 := by
        rcases Nat.eq_zero_or_pos len0 with e | e
        · subst e; exact absurd rfl hne
        · exact e
      obtain ⟨b, off, spot⟩ := x
      have hspot : spot = none := by
        have h1 := World.cell?_spot ((hf2 0 h0).2 0 _ rfl)
        simpa [Addr.add] using h1
      subst hspot
      refine ⟨b, off, rfl, fun j y hj i u hu => ?_⟩
      have hjl : j < len0 := by have := (List.getElem?_eq_some_iff.1 hj).1; rw [hlen] at this; exact this
      have ey : y = f j := by simp [hjl] at hj; exact hj.symm
      subst ey
      have := (hf2 j hjl).2 i u hu
      rw [add_plain, add_plain] at this
      exact this
    · have := hs _ (List.mem_cons_self)
      rw [bytesOf_op] at this
      simp only [List.length_map, List.length_range, reachBytes] at this
      rw [hlen]; omega
end Go.Proofs.Ytddnplpaoldbpaa
