/-
  A list of amounts opened, with the bound of its values.
-/
import Derived.Test.YtendjedlcobhlaaDoorOpenA
import Derived.Test.YtendjedlcobhlaaDoorNrB
namespace Go.Proofs.YtendjedlcobhlaaDoor
open Go.ChangeShapes Go.WideShapes Go.ChangeAt Go.RowKit Go.Lib Go.Deep
set_option maxRecDepth 100000 in
theorem amt_openV {H : Type} {enc : TypeId × Value → H} {W : World} {sp : Bool} {fuel : Nat} {cs : List Value} {x : DataW H × List MemPlace} (h : DataW.trod enc Tryd.prog W 0 (fun _ => true) sp fuel 32 cs = some x) : ∃ y : Amt, cs = encA y ∧ y.2 ≤ 9223372036854775807 := by
  obtain ⟨y0, y1, m, hx, hl, h0, h1⟩ := trod_struct2 Tryd.underlying32 h
  rw [cellsOf_amt] at hl
  match cs, hl with
  | [c0, c1], _ =>
    have es : Tryd.prog.cellsOf 9 = 1 := by kernel_rfl
    have eu : Tryd.prog.cellsOf 2 = 1 := by kernel_rfl
    change DataW.trod _ Tryd.prog W 0 _ sp m 9 (List.take (Tryd.prog.cellsOf 9) [c0, c1]) = some y0 at h0
    change DataW.trod _ Tryd.prog W 0 _ sp m 2 (List.take (Tryd.prog.cellsOf 2) [c1]) = some y1 at h1
    rw [es] at h0
    rw [eu] at h1
    obtain ⟨t, ht, _, _⟩ := DataW.trod_string Tryd.underlying9 h0
    obtain ⟨k, hk, _, wk⟩ := DataW.trod_int Tryd.underlying2 h1
    simp only [List.take, List.cons.injEq, and_true] at ht hk
    subst ht hk
    exact ⟨(t, k), rfl, by have := bounds_i64 wk; simp only; omega⟩
set_option maxRecDepth 100000 in
theorem open_amtsV {H : Type} {enc : TypeId × Value → H} {W : World} {base : Nat} {v : Value} {d : DataW H} {p : List MemPlace}
    (hv : Value.okWide Tryd.prog W .any base 22 v) (h : DataW.Trod enc Tryd.prog W 0 (fun _ => true) true 22 v d p)
    (hs : ∀ n ∈ d.weights Tryd.prog 22, n ≤ reachBytes) : ∃ xs, Amts W v xs ∧ (xs.length + 1) * 24 ≤ 140737488355328 ∧ ∀ x ∈ xs, x.2 ≤ 9223372036854775807 := by
  obtain ⟨a0, len0, cap0, rfl⟩ := okWide_slice Tryd.underlying22 hv
  obtain ⟨fuel, hf⟩ := h
  rcases open_slice Tryd.underlying22 hf with ⟨hcs, _⟩ | ⟨x, l, c, m, n, D, Pl, hcs, _, hl, hm, hmm, hx, hrow⟩
  · simp [Value.cells] at hcs
    obtain ⟨rfl, rfl, rfl⟩ := hcs
    exact ⟨[], ⟨none, 0, rfl, by simp, by decide, fun _ => rfl, fun k hk => by simp at hk⟩, by decide, fun x hx => by cases hx⟩
  · simp [Value.cells] at hcs
    obtain ⟨rfl, rfl, rfl⟩ := hcs
    simp only [if_true] at hmm
    subst hmm
    have hd := congrArg Prod.fst hx
    simp only at hd
    rw [hd] at hs
    simp only [DataW.weights, Tryd.underlying22] at hs
    have key : ∀ i, i < len0 → ∃ y : Amt, y.2 ≤ 9223372036854775807 ∧ ∀ j z, (encA y)[j]? = some z → W.cell? ((x.add (i * 2)).add j) = some z := fun i hi => by
      obtain ⟨cs', hc, ht⟩ := hrow i (by omega)
      rw [cellsOf_amt] at hc
      obtain ⟨y, rfl, hy⟩ := amt_openV ht
      exact ⟨y, hy, fun j z hz => cells_at hc j z hz⟩
    obtain ⟨f, hf⟩ := choose_lt key
    have hlen : ((List.range len0).map f).length = len0 := by simp
    have hget : ∀ k, k < len0 → ((List.range len0).map f).getD k (⟨#[]⟩, 0) = f k := fun k hk => by simp [List.getD, hk]
    refine ⟨(List.range len0).map f, ⟨some x, _, by rw [hlen], by rw [hlen]; exact hl, hm, fun h => by simp at h, fun k hk => ?_⟩, ?_, ?_⟩
    · rw [hlen] at hk
      obtain ⟨b, off, spot⟩ := x
      have hspot : spot = none := by
        have h0 := World.cell?_spot ((hf 0 (by omega)).2 0 _ rfl)
        simpa [Addr.add] using h0
      subst hspot
      rw [hget k hk]
      have h0 := (hf k hk).2 0 _ rfl
      have h1 := (hf k hk).2 1 _ rfl
      rw [addA_plain, addA_plain] at h0 h1
      exact ⟨b, off, rfl, h0, h1⟩
    · have := hs _ (List.mem_cons_self)
      rw [bytesOf_amt] at this
      simp only [reachBytes, List.length_map, List.length_range] at this
      rw [hlen]
      omega
    · intro x hx
      obtain ⟨k, hk, rfl⟩ := List.mem_map.1 hx
      exact (hf k (List.mem_range.1 hk)).1
set_option maxRecDepth 100000 in
theorem open_rowV {H : Type} {enc : TypeId × Value → H} {W : World} {base : Nat} {v : Value} {d : DataW H} {p : List MemPlace}
    (hv : Value.okWide Tryd.prog W .any base 22 v) (h : DataW.Trod enc Tryd.prog W 0 (fun _ => true) true 22 v d p)
    (hs : ∀ n ∈ d.weights Tryd.prog 22, n ≤ reachBytes) : ∃ l, Row kAm W v l ∧ ((l.length + 1) * 24 ≤ 140737488355328 ∧ ∀ x ∈ l, x.v ≤ 9223372036854775807) := by
  obtain ⟨xs, h1, h2, h3⟩ := open_amtsV hv h hs
  refine ⟨ofA xs, row_amts h1, by rw [ofA_len]; exact h2, fun x hx => ?_⟩
  unfold ofA at hx
  obtain ⟨y, hy, rfl⟩ := List.mem_map.1 hx
  exact h3 y hy
end Go.Proofs.YtendjedlcobhlaaDoor
