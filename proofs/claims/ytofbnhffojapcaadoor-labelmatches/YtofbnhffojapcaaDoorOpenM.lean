/-
  LISTS OF TERMS AND OF LABELS THAT CAME IN, OPENED.
-/
import Derived.Test.YtofbnhffojapcaaDoorOpenT
import Derived.Test.YtofbnhffojapcaaDoorLbl
import Derived.Deep.Slices
import Derived.Deep.Strs
namespace Go.Proofs.YtofbnhffojapcaaDoor
open Go.ChangeShapes Go.WideShapes Go.ChangeAt Go.RowKit Go.Deep
theorem cells_at' {W : World} {a : Addr} {n : Nat} {cs : List Value} (h : W.cells? 0 a n = some cs) (j : Nat) (y : Value) (hy : cs[j]? = some y) : W.cell? (a.add j) = some y := by
  obtain ⟨_, h2, h3⟩ := World.cells?_some h
  have hj : j < cs.length := by
    rcases Nat.lt_or_ge j cs.length with q | q
    · exact q
    · rw [List.getElem?_eq_none q] at hy; simp at hy
  rw [h3 j (by omega)]; exact hy
theorem cellsOf_trm : Tryd.prog.cellsOf 41 = 3 := by kernel_rfl
theorem bytesOf_trm : Tryd.prog.bytesOf 41 = 48 := by kernel_rfl
set_option maxRecDepth 100000 in
theorem texts_open {H : Type} {enc : TypeId × Value → H} {W : World} {fuel : Nat} {cs : List Value} {x : DataW H × List MemPlace} (hf : DataW.trod enc Tryd.prog W 0 (fun _ => true) true fuel 32 cs = some x)
    (hs : ∀ n ∈ x.1.weights Tryd.prog 32, n ≤ reachBytes) : ∃ v ts, cs = [v] ∧ Strs W v ts ∧ (∀ t ∈ ts, t.size ≤ maxLen) ∧ ts.length * 16 ≤ 140737488351232 := by
  rcases open_strings Tryd.underlying32 Tryd.underlying9 (by kernel_rfl) hf with ⟨hcs, _⟩ | ⟨x, len0, cap0, ss, hcs, _, hl, hm, hz, hx, hcell, hwz⟩
  · exact ⟨_, [], hcs, ⟨none, 0, rfl, by simp, by decide, fun _ => rfl, fun k hk => by simp at hk⟩, fun k hk => by simp at hk, by simp⟩
  · have hz' : ss.length = cap0 := by simpa using hz
    have e : (ss.take len0).length = len0 := by simp; omega
    have hd := congrArg Prod.fst hx
    simp only at hd
    rw [hd] at hs
    simp only [DataW.weights, Tryd.underlying32] at hs
    refine ⟨_, ss.take len0, hcs, ⟨some x, cap0, by rw [e], by omega, hm, (fun h => by cases h), fun k hk => ?_⟩, fun t ht => hwz t (List.mem_of_mem_take ht), ?_⟩
    · rw [e] at hk
      obtain ⟨b, off, spot⟩ := x
      have hc := hcell k (by omega)
      have hspot : spot = none := by
        have h0 := World.cell?_spot (hcell 0 (by omega))
        simpa [Addr.add] using h0
      subst hspot
      refine ⟨b, off, rfl, ?_⟩
      rw [add_plain] at hc
      rw [hc]
      congr 2
      have : k < ss.length := by omega
      simp [List.getD, List.getElem?_take_of_lt hk, this]
    · have := hs _ (List.mem_cons_self)
      rw [bytesOf_str] at this
      have hlen : (strs (H := H) (ss.take len0)).length = len0 := by simp [strs]; omega
      rw [hlen] at this
      simp only [reachBytes] at this
      rw [e]; omega
set_option maxRecDepth 100000 in
theorem trm_open {H : Type} {enc : TypeId × Value → H} {W : World} {fuel : Nat} {cs : List Value} {x : DataW H × List MemPlace} (h : DataW.trod enc Tryd.prog W 0 (fun _ => true) true fuel 41 cs = some x)
    (hs : ∀ n ∈ x.1.weights Tryd.prog 41, n ≤ reachBytes) : ∃ y : Trm, cs = y.cells ∧ y.At W ∧ y.ts.length * 16 ≤ 140737488351232 ∧ (-9223372036854775808 ≤ y.how ∧ y.how ≤ 9223372036854775807) ∧ y.key.size ≤ 140737488351232 := by
  obtain ⟨y0, y1, y2, m, hx, hl, h0, h1, h2⟩ := trod_struct3 Tryd.underlying41 h
  rw [cellsOf_trm] at hl
  match cs, hl with
  | [c0, c1, c2], _ =>
    have es : Tryd.prog.cellsOf 9 = 1 := by kernel_rfl
    have eu : Tryd.prog.cellsOf 3 = 1 := by kernel_rfl
    have ev : Tryd.prog.cellsOf 32 = 1 := by kernel_rfl
    change DataW.trod _ Tryd.prog W 0 _ true m 9 (List.take (Tryd.prog.cellsOf 9) [c0, c1, c2]) = some y0 at h0
    change DataW.trod _ Tryd.prog W 0 _ true m 3 (List.take (Tryd.prog.cellsOf 3) [c1, c2]) = some y1 at h1
    change DataW.trod _ Tryd.prog W 0 _ true m 32 (List.take (Tryd.prog.cellsOf 32) [c2]) = some y2 at h2
    rw [es] at h0
    rw [eu] at h1
    rw [ev] at h2
    obtain ⟨t, ht, q0, _⟩ := DataW.trod_string Tryd.underlying9 h0
    obtain ⟨k, hk, q1, wk⟩ := DataW.trod_int Tryd.underlying3 h1
    have bk := bounds_i64 wk
    have hs2 : ∀ n ∈ y2.1.weights Tryd.prog 32, n ≤ reachBytes := fun n hn => hs n (by
      rw [hx]
      simp only [DataW.weights, Tryd.underlying41]
      simp [DataW.weightsEach, hn])
    have hsz := hs t.data.toList.length (by
      rw [hx, q0]
      simp only [DataW.weights, Tryd.underlying41]
      simp [DataW.weightsEach, DataW.weights])
    rw [str_size] at hsz
    simp only [reachBytes] at hsz
    obtain ⟨v, ts, hv, hst, hz, hl16⟩ := texts_open h2 hs2
    simp only [List.take, List.cons.injEq, and_true] at ht hk hv
    subst ht hk hv
    exact ⟨⟨t, k, _, ts⟩, rfl, ⟨hst, hz⟩, hl16, bk, hsz⟩
set_option maxRecDepth 100000 in
theorem open_terms {H : Type} {enc : TypeId × Value → H} {W : World} {base : Nat} {v : Value} {d : DataW H} {p : List MemPlace}
    (hv : Value.okWide Tryd.prog W .any base 22 v) (h : DataW.Trod enc Tryd.prog W 0 (fun _ => true) true 22 v d p)
    (hs : ∀ n ∈ d.weights Tryd.prog 22, n ≤ reachBytes) : ∃ xs, Trms W v xs ∧ xs.length * 48 ≤ 140737488351232 ∧ ∀ x ∈ xs, x.ts.length * 16 ≤ 140737488351232 ∧ (-9223372036854775808 ≤ x.how ∧ x.how ≤ 9223372036854775807) ∧ x.key.size ≤ 140737488351232 := by
  obtain ⟨a0, len0, cap0, rfl⟩ := okWide_slice Tryd.underlying22 hv
  obtain ⟨fuel, hf⟩ := h
  rcases open_slice Tryd.underlying22 hf with ⟨hcs, _⟩ | ⟨x, l, c, m, n, D, Pl, hcs, _, hl, hm, hmm, hx, hrow⟩
  · simp [Value.cells] at hcs
    obtain ⟨rfl, rfl, rfl⟩ := hcs
    exact ⟨[], ⟨by simp, none, 0, rfl, by simp, by decide, fun _ => rfl, fun h => absurd rfl h⟩, by simp, by simp⟩
  · simp [Value.cells] at hcs
    obtain ⟨rfl, rfl, rfl⟩ := hcs
    simp only [if_true] at hmm
    subst hmm
    have hd := congrArg Prod.fst hx
    simp only at hd
    rw [hd] at hs
    simp only [DataW.weights, Tryd.underlying22] at hs
    have key : ∀ i, i < len0 → ∃ y : Trm, (y.At W ∧ y.ts.length * 16 ≤ 140737488351232 ∧ (-9223372036854775808 ≤ y.how ∧ y.how ≤ 9223372036854775807) ∧ y.key.size ≤ 140737488351232) ∧ ∀ j z, y.cells[j]? = some z → W.cell? ((x.add (i * 3)).add j) = some z := fun i hi => by
      obtain ⟨cs', hc, ht⟩ := hrow i (by omega)
      rw [cellsOf_trm] at hc
      obtain ⟨y, rfl, hy⟩ := trm_open ht (fun n hn => hs n (by
        simp only [List.mem_cons, List.mem_append]
        exact Or.inr (Or.inl (weights_mem_all (List.mem_map.2 ⟨i, List.mem_range.2 hi, rfl⟩) hn))))
      exact ⟨y, hy, fun j z hz => cells_at' hc j z hz⟩
    haveI : Inhabited Trm := ⟨⟨⟨#[]⟩, 0, .slice none 0 0, []⟩⟩
    obtain ⟨f, hf⟩ := choose_lt key
    have hlen : ((List.range len0).map f).length = len0 := by simp
    have hget : ∀ k, k < len0 → ((List.range len0).map f).getD k ⟨⟨#[]⟩, 0, .slice none 0 0, []⟩ = f k := fun k hk => by simp [List.getD, hk]
    refine ⟨(List.range len0).map f, ⟨fun y hy => ?_, some x, _, by rw [hlen], by rw [hlen]; exact hl, hm, fun h => (by simp at h), fun h0 => ?_⟩, ?_, fun y hy => ?_⟩
    · obtain ⟨i, hi, rfl⟩ := List.mem_map.1 hy
      exact (hf i (List.mem_range.1 hi)).1.1
    · have h0' : 0 < len0 := by
        rcases Nat.eq_zero_or_pos len0 with e | e
        · exact absurd (by rw [e]; rfl) h0
        · exact e
      obtain ⟨b, off, spot⟩ := x
      have hspot : spot = none := by
        have h0 := World.cell?_spot ((hf 0 h0').2 0 _ rfl)
        simpa [Addr.add] using h0
      subst hspot
      refine ⟨b, off, rfl, fun j hj i u hu => ?_⟩
      rw [hlen] at hj
      rw [hget j hj] at hu
      have := (hf j hj).2 i u hu
      rw [add_plain, add_plain] at this
      exact this
    · have := hs _ (List.mem_cons_self)
      rw [bytesOf_trm] at this
      simp only [reachBytes, List.length_map, List.length_range] at this
      rw [hlen]
      omega
    · obtain ⟨i, hi, rfl⟩ := List.mem_map.1 hy
      exact (hf i (List.mem_range.1 hi)).1.2
theorem cellsOf_lbl : Tryd.prog.cellsOf 52 = 2 := by kernel_rfl
theorem bytesOf_lbl : Tryd.prog.bytesOf 52 = 32 := by kernel_rfl
set_option maxRecDepth 100000 in
theorem lbl_open {H : Type} {enc : TypeId × Value → H} {W : World} {sp : Bool} {fuel : Nat} {cs : List Value} {x : DataW H × List MemPlace} (h : DataW.trod enc Tryd.prog W 0 (fun _ => true) sp fuel 52 cs = some x) : ∃ y : Lbl, cs = [.string y.1, .string y.2] := by
  obtain ⟨y0, y1, m, hx, hl, h0, h1⟩ := trod_struct2 Tryd.underlying52 h
  rw [cellsOf_lbl] at hl
  match cs, hl with
  | [c0, c1], _ =>
    have es : Tryd.prog.cellsOf 9 = 1 := by kernel_rfl
    change DataW.trod _ Tryd.prog W 0 _ sp m 9 (List.take (Tryd.prog.cellsOf 9) [c0, c1]) = some y0 at h0
    change DataW.trod _ Tryd.prog W 0 _ sp m 9 (List.take (Tryd.prog.cellsOf 9) [c1]) = some y1 at h1
    rw [es] at h0 h1
    obtain ⟨t, ht, _, _⟩ := DataW.trod_string Tryd.underlying9 h0
    obtain ⟨k, hk, _, _⟩ := DataW.trod_string Tryd.underlying9 h1
    simp only [List.take, List.cons.injEq, and_true] at ht hk
    subst ht hk
    exact ⟨(t, k), rfl⟩
set_option maxRecDepth 100000 in
theorem open_labels {H : Type} {enc : TypeId × Value → H} {W : World} {base : Nat} {v : Value} {d : DataW H} {p : List MemPlace}
    (hv : Value.okWide Tryd.prog W .any base 37 v) (h : DataW.Trod enc Tryd.prog W 0 (fun _ => true) true 37 v d p)
    (hs : ∀ n ∈ d.weights Tryd.prog 37, n ≤ reachBytes) : ∃ ls, Lbls W v ls ∧ ls.length * 32 ≤ 140737488351232 := by
  obtain ⟨a0, len0, cap0, rfl⟩ := okWide_slice Tryd.underlying37 hv
  obtain ⟨fuel, hf⟩ := h
  rcases open_slice Tryd.underlying37 hf with ⟨hcs, _⟩ | ⟨x, l, c, m, n, D, Pl, hcs, _, hl, hm, hmm, hx, hrow⟩
  · simp [Value.cells] at hcs
    obtain ⟨rfl, rfl, rfl⟩ := hcs
    exact ⟨[], ⟨none, 0, rfl, by simp, by decide, fun _ => rfl, fun k hk => by simp at hk⟩, by decide⟩
  · simp [Value.cells] at hcs
    obtain ⟨rfl, rfl, rfl⟩ := hcs
    simp only [if_true] at hmm
    subst hmm
    have hd := congrArg Prod.fst hx
    simp only at hd
    rw [hd] at hs
    simp only [DataW.weights, Tryd.underlying37] at hs
    have key : ∀ i, i < len0 → ∃ y : Lbl, ∀ j z, ([.string y.1, .string y.2] : List Value)[j]? = some z → W.cell? ((x.add (i * 2)).add j) = some z := fun i hi => by
      obtain ⟨cs', hc, ht⟩ := hrow i (by omega)
      rw [cellsOf_lbl] at hc
      obtain ⟨y, rfl⟩ := lbl_open ht
      exact ⟨y, fun j z hz => cells_at' hc j z hz⟩
    haveI : Inhabited Lbl := ⟨(⟨#[]⟩, ⟨#[]⟩)⟩
    obtain ⟨f, hf⟩ := choose_lt key
    have hlen : ((List.range len0).map f).length = len0 := by simp
    have hget : ∀ k, k < len0 → ((List.range len0).map f).getD k (⟨#[]⟩, ⟨#[]⟩) = f k := fun k hk => by simp [List.getD, hk]
    refine ⟨(List.range len0).map f, ⟨some x, _, by rw [hlen], by rw [hlen]; exact hl, hm, fun h => (by simp at h), fun k hk => ?_⟩, ?_⟩
    · rw [hlen] at hk
      obtain ⟨b, off, spot⟩ := x
      have hspot : spot = none := by
        have h0 := World.cell?_spot (hf 0 (by omega) 0 _ rfl)
        simpa [Addr.add] using h0
      subst hspot
      rw [hget k hk]
      have h0 := hf k hk 0 _ rfl
      have h1 := hf k hk 1 _ rfl
      rw [add_plain, add_plain] at h0 h1
      exact ⟨b, off, rfl, h0, h1⟩
    · have := hs _ (List.mem_cons_self)
      rw [bytesOf_lbl] at this
      simp only [reachBytes, List.length_map, List.length_range] at this
      rw [hlen]
      omega
end Go.Proofs.YtofbnhffojapcaaDoor
