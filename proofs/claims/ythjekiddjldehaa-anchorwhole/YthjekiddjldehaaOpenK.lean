/-
  A SLICE OF TRIES THAT CAME IN, OPENED.
-/
import Derived.Test.YthjekiddjldehaaAnY
import Derived.Test.YthjekiddjldehaaOpenE
import Derived.Deep.Slices
import Derived.ChangeSame
namespace Go.Proofs.Ythjekiddjldehaa
open Go.ChangeShapes Go.WideShapes Go.ChangeAt Go.RowKit Go.Deep
theorem weights_all_mem {H : Type} {P : Program} {e : TypeId} {d : DataW H} {l : List (DataW H)} (h : d ∈ l) {n : Nat} (hn : n ∈ d.weights P e) : n ∈ DataW.weightsAll P e l := by
  induction l with
  | nil => simp at h
  | cons c l ih =>
    simp only [DataW.weightsAll, List.mem_append]
    rcases List.mem_cons.1 h with rfl | h
    · exact Or.inl hn
    · exact Or.inr (ih h)
theorem cells_at {W : World} {a : Addr} {n : Nat} {cs : List Value} (h : W.cells? 0 a n = some cs) (j : Nat) (y : Value) (hy : cs[j]? = some y) : W.cell? (a.add j) = some y := by
  obtain ⟨_, h2, h3⟩ := World.cells?_some h
  have hj : j < cs.length := by
    rcases Nat.lt_or_ge j cs.length with q | q
    · exact q
    · rw [List.getElem?_eq_none q] at hy; simp at hy
  rw [h3 j (by omega)]; exact hy
theorem cellsOf_fate : Try.prog.cellsOf 91 = 2 := by kernel_rfl
theorem bytesOf_fate : Try.prog.bytesOf 91 = 16 := by kernel_rfl
theorem cellsOf_int : Try.prog.cellsOf 3 = 1 := by kernel_rfl
set_option maxRecDepth 100000 in
theorem fate_in {H : Type} {enc : TypeId × Value → H} {W : World} {fuel : Nat} {cs : List Value} {x : DataW H × List MemPlace} (h : DataW.trod enc Try.prog W 0 (fun _ => true) true fuel 91 cs = some x) : ∃ y : Int × Int, cs = [.int .i64 y.1, .int .i64 y.2] := by
  obtain ⟨y0, y1, m, hx, hl, h0, h1⟩ := trod_struct2 Try.underlying91 h
  rw [cellsOf_fate] at hl
  match cs, hl with
  | [c0, c1], _ =>
    change DataW.trod _ Try.prog W 0 _ true m 3 (List.take (Try.prog.cellsOf 3) [c0, c1]) = some y0 at h0
    change DataW.trod _ Try.prog W 0 _ true m 3 (List.take (Try.prog.cellsOf 3) [c1]) = some y1 at h1
    rw [cellsOf_int] at h0 h1
    obtain ⟨k, hk, _, _⟩ := DataW.trod_int Try.underlying3 h0
    obtain ⟨i, hi, _, _⟩ := DataW.trod_int Try.underlying3 h1
    simp only [List.take, List.cons.injEq, and_true] at hk hi
    subst hk hi
    exact ⟨(k, i), rfl⟩
set_option maxRecDepth 100000 in
theorem fates_in {H : Type} {enc : TypeId × Value → H} {W : World} {fuel : Nat} {cs : List Value} {x : DataW H × List MemPlace} (hf : DataW.trod enc Try.prog W 0 (fun _ => true) true fuel 49 cs = some x)
    (hs : ∀ n ∈ x.1.weights Try.prog 49, n ≤ reachBytes) : ∃ v fs, cs = [v] ∧ Fts W v fs ∧ fs.length * 16 ≤ 140737488351232 := by
  rcases open_slice Try.underlying49 hf with ⟨hcs, _⟩ | ⟨x, len0, cap0, m, n, D, Pl, hcs, _, hl, hm, hmm, hx, hrow⟩
  · exact ⟨_, [], hcs, ⟨none, 0, rfl, by simp, by decide, fun _ => rfl, fun k hk => by simp at hk⟩, by simp⟩
  · simp only [if_true] at hmm
    subst hmm
    have hd := congrArg Prod.fst hx
    simp only at hd
    rw [hd] at hs
    simp only [DataW.weights, Try.underlying49] at hs
    have key : ∀ i, i < len0 → ∃ y : Int × Int, ∀ j z, [Value.int .i64 y.1, .int .i64 y.2][j]? = some z → W.cell? ((x.add (i * 2)).add j) = some z := fun i hi => by
      obtain ⟨cs', hc, ht⟩ := hrow i (by omega)
      rw [cellsOf_fate] at hc
      obtain ⟨y, rfl⟩ := fate_in ht
      exact ⟨y, fun j z hz => cells_at hc j z hz⟩
    obtain ⟨f, hf2⟩ := choose_lt key
    have hlen : ((List.range len0).map f).length = len0 := by simp
    have hget : ∀ k, k < len0 → ((List.range len0).map f).getD k (0, 0) = f k := fun k hk => by simp [List.getD, hk]
    refine ⟨_, (List.range len0).map f, hcs, ⟨some x, _, by rw [hlen], by rw [hlen]; exact hl, hm, (fun h => by cases h), fun k hk => ?_⟩, ?_⟩
    · rw [hlen] at hk
      obtain ⟨b, off, spot⟩ := x
      have hspot : spot = none := by
        have h0 := World.cell?_spot (hf2 0 (by omega) 0 _ rfl)
        simpa [Addr.add] using h0
      subst hspot
      refine ⟨b, off, rfl, ?_, ?_⟩
      · have := hf2 k hk 0 _ rfl
        rw [add_plain, add_plain, Nat.add_zero] at this
        rw [hget k hk]; exact this
      · have := hf2 k hk 1 _ rfl
        rw [add_plain, add_plain] at this
        rw [hget k hk]; exact this
    · have := hs _ (List.mem_cons_self)
      rw [bytesOf_fate] at this
      simp only [List.length_map, List.length_range, reachBytes] at this
      rw [hlen]; omega
theorem cellsOf_try : Try.prog.cellsOf 51 = 12 := by kernel_rfl
theorem list12 {α : Type} {cs : List α} (h : cs.length = 12) : ∃ c0 c1 c2 c3 c4 c5 c6 c7 c8 c9 c10 c11, cs = [c0, c1, c2, c3, c4, c5, c6, c7, c8, c9, c10, c11] := by
  match cs, h with
  | [c0, c1, c2, c3, c4, c5, c6, c7, c8, c9, c10, c11], _ => exact ⟨c0, c1, c2, c3, c4, c5, c6, c7, c8, c9, c10, c11, rfl⟩
theorem list4 {α : Type} {cs : List α} (h : cs.length = 4) : ∃ c0 c1 c2 c3, cs = [c0, c1, c2, c3] := by
  match cs, h with
  | [c0, c1, c2, c3], _ => exact ⟨c0, c1, c2, c3, rfl⟩
set_option maxRecDepth 100000 in
theorem try_in {H : Type} {enc : TypeId × Value → H} {W : World} {fuel : Nat} {cs : List Value} {x : DataW H × List MemPlace} (h : DataW.trod enc Try.prog W 0 (fun _ => true) true fuel 51 cs = some x)
    (hs : ∀ n ∈ x.1.weights Try.prog 51, n ≤ reachBytes) : ∃ y : TrD, cs = y.cells ∧ y.At W := by
  obtain ⟨xs, n, _, rfl, hl, hlen, hf⟩ := DataW.trod_struct Try.underlying51 h
  rw [cellsOf_try] at hl
  obtain ⟨y0, y1, y2, y3, rfl⟩ := list4 hlen
  obtain ⟨c0, c1, c2, c3, c4, c5, c6, c7, c8, c9, c10, c11, rfl⟩ := list12 hl
  have e1 : Try.prog.cellsOf 4 = 1 := by kernel_rfl
  have e4 : Try.prog.cellsOf 49 = 1 := by kernel_rfl
  have t0 := hf 0 _ rfl
  have t1 := hf 1 _ rfl
  have t2 := hf 2 _ rfl
  have t3 := hf 3 _ rfl
  change DataW.trod enc Try.prog W 0 _ true n 25 (List.take (Try.prog.cellsOf 25) [c0, c1, c2, c3, c4, c5, c6, c7, c8, c9, c10, c11]) = some y0 at t0
  change DataW.trod enc Try.prog W 0 _ true n 3 (List.take (Try.prog.cellsOf 3) [c9, c10, c11]) = some y1 at t1
  change DataW.trod enc Try.prog W 0 _ true n 4 (List.take (Try.prog.cellsOf 4) [c10, c11]) = some y2 at t2
  change DataW.trod enc Try.prog W 0 _ true n 49 (List.take (Try.prog.cellsOf 49) [c11]) = some y3 at t3
  rw [cellsOf_super] at t0
  rw [cellsOf_int] at t1
  rw [e1] at t2
  rw [e4] at t3
  have hw3 : ∀ m ∈ y3.1.weights Try.prog 49, m ≤ reachBytes := fun m hm => hs m (by
    simp only [DataW.weights, Try.underlying51]
    exact DataW.weights_mem_each (j := 3) rfl rfl m hm)
  simp only [List.take] at t0
  obtain ⟨s, hcs, _⟩ := cells_super t0
  obtain ⟨k1, hk1, _, _⟩ := DataW.trod_int Try.underlying3 t1
  obtain ⟨b2, hb2, _⟩ := DataW.trod_bool Try.underlying4 t2
  obtain ⟨v3, l3, h3, bb3, s3⟩ := fates_in t3 hw3
  simp only [List.take, List.cons.injEq, and_true] at hk1 hb2 h3
  subst hk1 hb2 h3
  refine ⟨⟨s, k1, b2, c11, l3⟩, ?_, bb3, by show l3.length ≤ _; omega⟩
  simp only [Sup.arr, List.cons.injEq, and_true] at hcs
  obtain ⟨r0, r1, r2, r3, r4, r5, r6, r7, r8⟩ := hcs
  subst r0 r1 r2 r3 r4 r5 r6 r7 r8
  rfl
theorem bytesOf_try : Try.prog.bytesOf 51 = 112 := by kernel_rfl
set_option maxRecDepth 100000 in
theorem open_tries {H : Type} {enc : TypeId × Value → H} {W : World} {base : Nat} {v : Value} {d : DataW H} {p : List MemPlace}
    (hv : Value.okWide Try.prog W .any base 48 v) (h : DataW.Trod enc Try.prog W 0 (fun _ => true) true 48 v d p)
    (hs : ∀ n ∈ d.weights Try.prog 48, n ≤ reachBytes) : ∃ l, Trs W v l ∧ l.length ≤ 1256584717421 := by
  obtain ⟨a0, len0, cap0, rfl⟩ := okWide_slice Try.underlying48 hv
  obtain ⟨fuel, hf⟩ := h
  rcases open_slice Try.underlying48 hf with ⟨hcs, _⟩ | ⟨x, l, c, m, n, D, Pl, hcs, _, hl, hm, hmm, hx, hrow⟩
  · simp [Value.cells] at hcs
    obtain ⟨rfl, rfl, rfl⟩ := hcs
    exact ⟨[], ⟨by simp, none, 0, rfl, by simp, by decide, fun h => absurd rfl h⟩, by simp⟩
  · simp [Value.cells] at hcs
    obtain ⟨rfl, rfl, rfl⟩ := hcs
    simp only [if_true] at hmm
    subst hmm
    have hd := congrArg Prod.fst hx
    simp only at hd
    rw [hd] at hs
    simp only [DataW.weights, Try.underlying48] at hs
    have key : ∀ i, i < len0 → ∃ y : TrD, y.At W ∧ ∀ j z, y.cells[j]? = some z → W.cell? ((x.add (i * 12)).add j) = some z := fun i hi => by
      obtain ⟨cs', hc, ht⟩ := hrow i (by omega)
      rw [cellsOf_try] at hc
      obtain ⟨y, rfl, hy⟩ := try_in ht (fun n hn => hs n (by
        simp only [List.mem_cons, List.mem_append]
        exact Or.inr (Or.inl (weights_all_mem (List.mem_map.2 ⟨i, List.mem_range.2 hi, rfl⟩) hn))))
      exact ⟨y, hy, fun j z hz => cells_at hc j z hz⟩
    haveI : Inhabited TrD := ⟨⟨⟨0, 0, 0, 0, 0, 0, 0, 0, 0⟩, 0, false, .slice none 0 0, []⟩⟩
    obtain ⟨f, hf2⟩ := choose_lt key
    have hlen : ((List.range len0).map f).length = len0 := by simp
    refine ⟨(List.range len0).map f, ⟨fun y hy => ?_, some x, _, by rw [hlen], by rw [hlen]; exact hl, hm, fun hne => ?_⟩, ?_⟩
    · obtain ⟨i, hi, rfl⟩ := List.mem_map.1 hy
      exact (hf2 i (List.mem_range.1 hi)).1
    · have h0 : 0 < len0 := by
        rcases Nat.eq_zero_or_pos len0 with e | e
        · subst e; exact absurd rfl hne
        · exact e
      obtain ⟨b, off, spot⟩ := x
      have hspot : spot = none := by
        have h1 := World.cell?_spot ((hf2 0 h0).2 0 _ rfl)
        simpa [Addr.add] using h1
      subst hspot
      refine ⟨b, off, rfl, fun j y hj i u hu => ?_⟩
      have hjl : j < len0 := by have := (List.getElem?_eq_some_iff.1 hj).1; rw [hlen] at this; exact this
      have ey : y = f j := by simp [hjl] at hj; exact hj.symm
      subst ey
      have := (hf2 j hjl).2 i u hu
      rw [add_plain, add_plain] at this
      exact this
    · have := hs _ (List.mem_cons_self)
      rw [bytesOf_try] at this
      simp only [List.length_map, List.length_range, reachBytes] at this
      rw [hlen]; omega
end Go.Proofs.Ythjekiddjldehaa
