/-
  A NODE THAT CAME IN, OPENED.
-/
import Derived.Test.YtmoghdpjemidgaaPgT
import Derived.Test.YtmoghdpjemidgaaOpen
import Derived.SliceStrings
import Derived.Deep.Slices
import Derived.ChangeSame
namespace Go.Proofs.Ytmoghdpjemidgaa
open Go.ChangeShapes Go.WideShapes Go.ChangeAt Go.RowKit Go.Deep
theorem cells_atD {W : World} {a : Addr} {n : Nat} {cs : List Value} (h : W.cells? 0 a n = some cs) (j : Nat) (y : Value) (hy : cs[j]? = some y) : W.cell? (a.add j) = some y := by
  obtain ⟨_, h2, h3⟩ := World.cells?_some h
  have hj : j < cs.length := by
    rcases Nat.lt_or_ge j cs.length with q | q
    · exact q
    · rw [List.getElem?_eq_none q] at hy; simp at hy
  rw [h3 j (by omega)]; exact hy
theorem cellsOf_nd : Try.prog.cellsOf 27 = 7 := by kernel_rfl
theorem cellsOf_en : Try.prog.cellsOf 29 = 2 := by kernel_rfl
theorem cellsOf_i : Try.prog.cellsOf 3 = 1 := by kernel_rfl
theorem cellsOf_s : Try.prog.cellsOf 9 = 1 := by kernel_rfl
theorem cellsOf_is : Try.prog.cellsOf 23 = 1 := by kernel_rfl
theorem cellsOf_ss : Try.prog.cellsOf 22 = 1 := by kernel_rfl
theorem cellsOf_es : Try.prog.cellsOf 25 = 1 := by kernel_rfl
theorem bytesOf_i : Try.prog.bytesOf 3 = 8 := by kernel_rfl
theorem bytesOf_s : Try.prog.bytesOf 9 = 16 := by kernel_rfl
theorem bytesOf_en : Try.prog.bytesOf 29 = 32 := by kernel_rfl
theorem list7 {α : Type} {cs : List α} (h : cs.length = 7) : ∃ c0 c1 c2 c3 c4 c5 c6, cs = [c0, c1, c2, c3, c4, c5, c6] := by
  match cs, h with
  | [c0, c1, c2, c3, c4, c5, c6], _ => exact ⟨c0, c1, c2, c3, c4, c5, c6, rfl⟩
theorem list2 {α : Type} {cs : List α} (h : cs.length = 2) : ∃ c0 c1, cs = [c0, c1] := by
  match cs, h with
  | [c0, c1], _ => exact ⟨c0, c1, rfl⟩
set_option maxRecDepth 100000 in
theorem ints_in {H : Type} {enc : TypeId × Value → H} {W : World} {fuel : Nat} {cs : List Value} {x : DataW H × List MemPlace} (hf : DataW.trod enc Try.prog W 0 (fun _ => true) true fuel 23 cs = some x)
    (hs : ∀ n ∈ x.1.weights Try.prog 23, n ≤ reachBytes) : ∃ v l, cs = [v] ∧ Ints W v l ∧ In64 l ∧ l.length < 17592186044416 := by
  rcases open_ints Try.underlying23 Try.underlying3 (by kernel_rfl) hf with ⟨hcs, _⟩ | ⟨x, len0, cap0, zs, hcs, _, hl, hm, hz, hx, hcell, hwz⟩
  · exact ⟨_, [], hcs, ⟨none, 0, rfl, by simp, by decide, fun _ => rfl, fun k hk => by simp at hk⟩, fun n h => by simp at h, by simp⟩
  · have hz' : zs.length = cap0 := by simpa using hz
    have hd := congrArg Prod.fst hx
    simp only at hd
    rw [hd] at hs
    simp only [DataW.weights, Try.underlying23] at hs
    have e : (zs.take len0).length = len0 := by simp; omega
    refine ⟨_, zs.take len0, hcs, ⟨some x, cap0, by rw [e], by omega, hm, fun h => by simp at h, fun k hk => ?_⟩, fun y hy => ?_, ?_⟩
    · rw [e] at hk
      obtain ⟨b, off, spot⟩ := x
      have hc := hcell k (by omega)
      have hspot : spot = none := by
        have h0 := World.cell?_spot (hcell 0 (by omega))
        simpa [Addr.add] using h0
      subst hspot
      refine ⟨b, off, rfl, ?_⟩
      rw [add_plain] at hc
      rw [hc]
      have hg : zs.getD k 0 = (zs.take len0).getD k 0 := by
        rw [List.getD_eq_getElem?_getD, List.getD_eq_getElem?_getD, List.getElem?_take_of_lt hk]
      rw [hg]
    · exact hwz _ (List.mem_of_mem_take hy)
    · have := hs _ (List.mem_cons_self)
      rw [bytesOf_i] at this
      simp only [lits, List.length_map, List.length_take, reachBytes] at this
      rw [e]; omega
set_option maxRecDepth 100000 in
theorem strs_in {H : Type} {enc : TypeId × Value → H} {W : World} {fuel : Nat} {cs : List Value} {x : DataW H × List MemPlace} (hf : DataW.trod enc Try.prog W 0 (fun _ => true) true fuel 22 cs = some x)
    (hs : ∀ n ∈ x.1.weights Try.prog 22, n ≤ reachBytes) : ∃ v l, cs = [v] ∧ Strs W v l ∧ l.length < 8796093022208 := by
  rcases open_strings Try.underlying22 Try.underlying9 (by kernel_rfl) hf with ⟨hcs, _⟩ | ⟨x, len0, cap0, ss, hcs, _, hl, hm, hz, hx, hcell, hwz⟩
  · exact ⟨_, [], hcs, ⟨none, 0, rfl, by simp, by decide, fun _ => rfl, fun k hk => by simp at hk⟩, by simp⟩
  · have hz' : ss.length = cap0 := by simpa using hz
    have e : (ss.take len0).length = len0 := by simp; omega
    have hd := congrArg Prod.fst hx
    simp only at hd
    rw [hd] at hs
    simp only [DataW.weights, Try.underlying22] at hs
    refine ⟨_, ss.take len0, hcs, ⟨some x, cap0, by rw [e], by omega, hm, fun h => by simp at h, fun k hk => ?_⟩, ?_⟩
    · rw [e] at hk
      obtain ⟨b, off, spot⟩ := x
      have hc := hcell k (by omega)
      have hspot : spot = none := by
        have h0 := World.cell?_spot (hcell 0 (by omega))
        simpa [Addr.add] using h0
      subst hspot
      refine ⟨b, off, rfl, ?_⟩
      rw [add_plain] at hc
      rw [hc]
      congr 2
      have : k < ss.length := by omega
      simp [List.getD, List.getElem?_take_of_lt hk, this]
    · have := hs _ (List.mem_cons_self)
      rw [bytesOf_s] at this
      have hlen : (strs (H := H) (ss.take len0)).length = len0 := by simp [strs]; omega
      rw [hlen] at this
      simp only [reachBytes] at this
      rw [e]; omega
set_option maxRecDepth 100000 in
theorem ents_in {H : Type} {enc : TypeId × Value → H} {W : World} {fuel : Nat} {cs : List Value} {x : DataW H × List MemPlace} (hf : DataW.trod enc Try.prog W 0 (fun _ => true) true fuel 25 cs = some x)
    (hs : ∀ n ∈ x.1.weights Try.prog 25, n ≤ reachBytes) : ∃ v l, cs = [v] ∧ Ents W v l ∧ l.length < 4398046511104 := by
  rcases open_slice Try.underlying25 hf with ⟨hcs, _⟩ | ⟨x, len0, cap0, m, n, D, Pl, hcs, _, hl, hm, hmm, hx, hrow⟩
  · exact ⟨_, [], hcs, ⟨none, 0, rfl, by simp, by decide, fun _ => rfl, fun k hk => by simp at hk⟩, by simp⟩
  · simp only [if_true] at hmm
    subst hmm
    have hd := congrArg Prod.fst hx
    simp only at hd
    rw [hd] at hs
    simp only [DataW.weights, Try.underlying25] at hs
    have key : ∀ i, i < len0 → ∃ y : Ent, W.cell? (x.add (i * 2)) = some (.string y.1) ∧ W.cell? ((x.add (i * 2)).add 1) = some (.string y.2) := fun i hi => by
      obtain ⟨cs', hc, ht⟩ := hrow i (by omega)
      rw [cellsOf_en] at hc
      obtain ⟨xs, n', _, _, hl', hlen', hfl⟩ := DataW.trod_struct Try.underlying29 ht
      rw [cellsOf_en] at hl'
      obtain ⟨y0, y1, rfl⟩ := list2 hlen'
      obtain ⟨c0, c1, rfl⟩ := list2 hl'
      have t0 := hfl 0 _ rfl
      have t1 := hfl 1 _ rfl
      change DataW.trod enc Try.prog W 0 _ true n' 9 (List.take (Try.prog.cellsOf 9) [c0, c1]) = some y0 at t0
      change DataW.trod enc Try.prog W 0 _ true n' 9 (List.take (Try.prog.cellsOf 9) [c1]) = some y1 at t1
      rw [cellsOf_s] at t0 t1
      obtain ⟨s0, hs0, _, _⟩ := DataW.trod_string Try.underlying9 t0
      obtain ⟨s1, hs1, _, _⟩ := DataW.trod_string Try.underlying9 t1
      simp only [List.take, List.cons.injEq, and_true] at hs0 hs1
      subst hs0 hs1
      have k0 := cells_atD hc 0 _ rfl
      have k1 := cells_atD hc 1 _ rfl
      have e : (x.add (i * 2)).add 0 = x.add (i * 2) := by unfold Addr.add; split <;> simp_all
      rw [e] at k0
      exact ⟨(s0, s1), k0, k1⟩
    obtain ⟨f, hf2⟩ := choose_lt key
    have hlen : ((List.range len0).map f).length = len0 := by simp
    have hget : ∀ k, k < len0 → ((List.range len0).map f).getD k (⟨#[]⟩, ⟨#[]⟩) = f k := fun k hk => by simp [List.getD, hk]
    refine ⟨_, (List.range len0).map f, hcs, ⟨some x, _, by rw [hlen], by rw [hlen]; exact hl, hm, (fun h => by simp at h), fun k hk => ?_⟩, ?_⟩
    · rw [hlen] at hk
      obtain ⟨b, off, spot⟩ := x
      have hspot : spot = none := by
        have h1 := World.cell?_spot (hf2 0 (by omega)).1
        simpa [Addr.add] using h1
      subst hspot
      obtain ⟨k0, k1⟩ := hf2 k hk
      rw [add_plain] at k0 k1
      rw [add_plain] at k1
      rw [hget k hk]
      exact ⟨b, off, rfl, k0, k1⟩
    · have := hs _ (List.mem_cons_self)
      rw [bytesOf_en] at this
      simp only [List.length_map, List.length_range, reachBytes] at this
      rw [hlen]; omega
/-- The value v is the node n. -/
def Nin (W : World) (v : Value) (n : Nd) : Prop := ∃ nv, v = .agg (n.arr nv) ∧ Ls W nv n
/-- What is asked of its sizes. -/
structure Szs (n : Nd) : Prop where
  z : Sz n
  e : n.ents.length < 4398046511104
  q : n.chs.length < 17592186044416 ∧ n.keys.length < 8796093022208 ∧ n.kids.length < 17592186044416
set_option maxRecDepth 100000 in
theorem open_node {H : Type} {enc : TypeId × Value → H} {W : World} {base : Nat} {v : Value} {d : DataW H} {p : List MemPlace}
    (hv : Value.okWide Try.prog W .any base 27 v) (h : DataW.Trod enc Try.prog W 0 (fun _ => true) true 27 v d p)
    (hs : ∀ n ∈ d.weights Try.prog 27, n ≤ reachBytes) : ∃ n, Nin W v n ∧ Szs n := by
  obtain ⟨cs, rfl, _⟩ := okWide_struct Try.underlying27 hv
  obtain ⟨fuel, hf⟩ := h
  have hf' : DataW.trod enc Try.prog W 0 (fun _ => true) true fuel 27 cs.toList = some (d, p) := hf
  obtain ⟨xs, n, _, hx, hl, hlen, hfl⟩ := DataW.trod_struct Try.underlying27 hf'
  rw [cellsOf_nd] at hl
  obtain ⟨y0, y1, y2, y3, y4, y5, y6, rfl⟩ := list7 hlen
  obtain ⟨c0, c1, c2, c3, c4, c5, c6, hcs⟩ := list7 hl
  have t0 := hfl 0 _ rfl
  have t1 := hfl 1 _ rfl
  have t2 := hfl 2 _ rfl
  have t3 := hfl 3 _ rfl
  have t4 := hfl 4 _ rfl
  have t5 := hfl 5 _ rfl
  have t6 := hfl 6 _ rfl
  rw [hcs] at t0 t1 t2 t3 t4 t5 t6
  change DataW.trod enc Try.prog W 0 _ true n 3 (List.take (Try.prog.cellsOf 3) [c0, c1, c2, c3, c4, c5, c6]) = some y0 at t0
  change DataW.trod enc Try.prog W 0 _ true n 25 (List.take (Try.prog.cellsOf 25) [c1, c2, c3, c4, c5, c6]) = some y1 at t1
  change DataW.trod enc Try.prog W 0 _ true n 23 (List.take (Try.prog.cellsOf 23) [c2, c3, c4, c5, c6]) = some y2 at t2
  change DataW.trod enc Try.prog W 0 _ true n 22 (List.take (Try.prog.cellsOf 22) [c3, c4, c5, c6]) = some y3 at t3
  change DataW.trod enc Try.prog W 0 _ true n 23 (List.take (Try.prog.cellsOf 23) [c4, c5, c6]) = some y4 at t4
  change DataW.trod enc Try.prog W 0 _ true n 3 (List.take (Try.prog.cellsOf 3) [c5, c6]) = some y5 at t5
  change DataW.trod enc Try.prog W 0 _ true n 9 (List.take (Try.prog.cellsOf 9) [c6]) = some y6 at t6
  rw [cellsOf_i] at t0 t5
  rw [cellsOf_es] at t1
  rw [cellsOf_is] at t2 t4
  rw [cellsOf_ss] at t3
  rw [cellsOf_s] at t6
  have hd := congrArg Prod.fst hx
  simp only at hd
  have hw : ∀ (j : Nat) (t : TypeId) (y : DataW H), [3, 25, 23, 22, 23, 3, 9][j]? = some t → [y0.1, y1.1, y2.1, y3.1, y4.1, y5.1, y6.1][j]? = some y → ∀ m ∈ y.weights Try.prog t, m ≤ reachBytes := fun j t y h1 h2 m hm => hs m (by
    rw [hd]
    simp only [DataW.weights, Try.underlying27]
    exact DataW.weights_mem_each (j := j) h1 h2 m hm)
  obtain ⟨k0, hk0, _, _⟩ := DataW.trod_int Try.underlying3 t0
  obtain ⟨k5, hk5, _, _⟩ := DataW.trod_int Try.underlying3 t5
  obtain ⟨k6, hk6, _, _⟩ := DataW.trod_string Try.underlying9 t6
  obtain ⟨u1, l1, hu1, i1, b1⟩ := ents_in t1 (hw 1 _ _ rfl rfl)
  obtain ⟨u2, l2, hu2, i2, z2, b2⟩ := ints_in t2 (hw 2 _ _ rfl rfl)
  obtain ⟨u3, l3, hu3, i3, b3⟩ := strs_in t3 (hw 3 _ _ rfl rfl)
  obtain ⟨u4, l4, hu4, i4, z4, b4⟩ := ints_in t4 (hw 4 _ _ rfl rfl)
  simp only [List.take, List.cons.injEq, and_true] at hk0 hk5 hk6 hu1 hu2 hu3 hu4
  subst hk0 hk5 hk6 hu1 hu2 hu3 hu4
  refine ⟨⟨k0, l1, l2, l3, l4, k5, k6⟩, ⟨⟨c1, c2, c3, c4⟩, ?_, ⟨i1, i2, i3, i4⟩⟩, ⟨⟨by show l1.length ≤ _; omega, by show l2.length ≤ _; omega, by show l3.length ≤ _; omega, by show l4.length ≤ _; omega, z2, z4⟩, b1, ⟨b2, b3, b4⟩⟩⟩
  show Value.agg cs = .agg #[.int .i64 k0, c1, c2, c3, c4, .int .i64 k5, .string k6]
  congr 1
  apply Array.ext'
  rw [hcs]
end Go.Proofs.Ytmoghdpjemidgaa
