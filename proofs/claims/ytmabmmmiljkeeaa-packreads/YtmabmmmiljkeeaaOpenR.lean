/-
  A SLICE OF READING STEPS THAT CAME IN, OPENED.
-/
import Derived.Test.YtmabmmmiljkeeaaROps
import Derived.Test.YtmabmmmiljkeeaaOpen
import Derived.Deep.Slices
import Derived.Deep.Strs
namespace Go.Proofs.Ytmabmmmiljkeeaa
open Go.ChangeShapes Go.WideShapes Go.ChangeAt Go.RowKit Go.Deep

theorem cellsOf_rop : Try.prog.cellsOf 58 = 3 := by kernel_rfl
theorem cells_atR {W : World} {a : Addr} {n : Nat} {cs : List Value} (h : W.cells? 0 a n = some cs) (j : Nat) (y : Value) (hy : cs[j]? = some y) : W.cell? (a.add j) = some y := by
  obtain ⟨_, h2, h3⟩ := World.cells?_some h
  have hj : j < cs.length := by
    rcases Nat.lt_or_ge j cs.length with q | q
    · exact q
    · rw [List.getElem?_eq_none q] at hy; simp at hy
  rw [h3 j (by omega)]; exact hy
theorem rop_open {H : Type} {enc : TypeId × Value → H} {W : World} {fuel : Nat} {cs : List Value} {x : DataW H × List MemPlace} (h : DataW.trod enc Try.prog W 0 (fun _ => true) true fuel 58 cs = some x) : ∃ o : RO, cs = o.cells ∧ o.fits := by
  obtain ⟨y0, y1, y2, n, hx, hl, t0, t1, t2⟩ := Go.Deep.trod_struct3 Try.underlying58 h
  rw [cellsOf_rop] at hl
  match cs, hl with
  | [c0, c1, c2], _ =>
    have e1 : Try.prog.cellsOf 4 = 1 := by kernel_rfl
    have e3 : Try.prog.cellsOf 3 = 1 := by kernel_rfl
    change DataW.trod enc Try.prog W 0 _ true n 3 (List.take (Try.prog.cellsOf 3) [c0, c1, c2]) = some y0 at t0
    change DataW.trod enc Try.prog W 0 _ true n 3 (List.take (Try.prog.cellsOf 3) [c1, c2]) = some y1 at t1
    change DataW.trod enc Try.prog W 0 _ true n 4 (List.take (Try.prog.cellsOf 4) [c2]) = some y2 at t2
    rw [e3] at t0
    rw [e3] at t1
    rw [e1] at t2
    obtain ⟨k, hk, q0, wk⟩ := DataW.trod_int Try.underlying3 t0
    obtain ⟨m, hm, q1, wm⟩ := DataW.trod_int Try.underlying3 t1
    obtain ⟨b0, hb0, q2⟩ := DataW.trod_bool Try.underlying4 t2
    have bm := bounds_i64 wm
    simp only [List.take, List.cons.injEq, and_true] at hb0 hm hk
    subst hb0 hm hk
    exact ⟨⟨k, m, b0⟩, rfl, bm.1, by show m < _; omega⟩
theorem open_rops {H : Type} {enc : TypeId × Value → H} {W : World} {base : Nat} {v : Value} {d : DataW H} {p : List MemPlace}
    (hv : Value.okWide Try.prog W .any base 54 v) (h : DataW.Trod enc Try.prog W 0 (fun _ => true) true 54 v d p)
    (_hs : ∀ n ∈ d.weights Try.prog 54, n ≤ reachBytes) : ∃ xs, ROps W v xs ∧ (∀ x ∈ xs, x.fits) := by
  obtain ⟨a0, len0, cap0, rfl⟩ := okWide_slice Try.underlying54 hv
  obtain ⟨fuel, hf⟩ := h
  rcases open_slice Try.underlying54 hf with ⟨hcs, _⟩ | ⟨x, l, c, m, n, D, Pl, hcs, _, hl, hm, hmm, hx, hrow⟩
  · simp [Value.cells] at hcs
    obtain ⟨rfl, rfl, rfl⟩ := hcs
    exact ⟨[], ⟨none, 0, rfl, by simp, by decide, fun k hk => by simp at hk⟩, fun x hx => by simp at hx⟩
  · simp [Value.cells] at hcs
    obtain ⟨rfl, rfl, rfl⟩ := hcs
    simp only [if_true] at hmm
    subst hmm
    have key : ∀ i, i < len0 → ∃ y : RO, y.fits ∧ ∀ j z, y.cells[j]? = some z → W.cell? ((x.add (i * 3)).add j) = some z := fun i hi => by
      obtain ⟨cs', hc, ht⟩ := hrow i (by omega)
      rw [cellsOf_rop] at hc
      obtain ⟨y, rfl, hy⟩ := rop_open ht
      exact ⟨y, hy, fun j z hz => cells_atR hc j z hz⟩
    haveI : Inhabited RO := ⟨RO.zero⟩
    obtain ⟨f, hf⟩ := choose_lt key
    have hlen : ((List.range len0).map f).length = len0 := by simp
    have hget : ∀ k, k < len0 → ((List.range len0).map f).getD k RO.zero = f k := fun k hk => by simp [List.getD, hk]
    refine ⟨(List.range len0).map f, ⟨some x, _, by rw [hlen], by rw [hlen]; exact hl, hm, fun k hk => ?_⟩, fun y hy => ?_⟩
    · rw [hlen] at hk
      obtain ⟨b, off, spot⟩ := x
      have hspot : spot = none := by
        have h0 := World.cell?_spot ((hf 0 (by omega)).2 0 _ rfl)
        simpa [Addr.add] using h0
      subst hspot
      refine ⟨b, off, rfl, fun j z hz => ?_⟩
      rw [hget k hk] at hz
      have := (hf k hk).2 j z hz
      rw [add_plain, add_plain] at this
      exact this
    · obtain ⟨i, hi, rfl⟩ := List.mem_map.1 hy
      exact (hf i (List.mem_range.1 hi)).1
end Go.Proofs.Ytmabmmmiljkeeaa
