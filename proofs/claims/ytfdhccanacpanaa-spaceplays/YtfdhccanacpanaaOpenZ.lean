/-
  A SIZE THAT CAME IN, OPENED.
-/
import Derived.Test.YtfdhccanacpanaaPyB
import Derived.Test.YtfdhccanacpanaaOpenQ
namespace Go.Proofs.Ytfdhccanacpanaa
open Go.ChangeShapes Go.WideShapes Go.ChangeAt Go.RowKit Go.Deep
theorem cellsOf_size : Try.prog.cellsOf 47 = 3 := by kernel_rfl
theorem cellsOf_ints : Try.prog.cellsOf 27 = 1 := by kernel_rfl
theorem bytesOf_int : Try.prog.bytesOf 3 = 8 := by kernel_rfl
set_option maxRecDepth 100000 in
theorem ints_in {H : Type} {enc : TypeId × Value → H} {W : World} {fuel : Nat} {cs : List Value} {x : DataW H × List MemPlace} (hf : DataW.trod enc Try.prog W 0 (fun _ => true) true fuel 27 cs = some x)
    (hs : ∀ n ∈ x.1.weights Try.prog 27, n ≤ reachBytes) : ∃ v l, cs = [v] ∧ Ints W v l ∧ (∀ y ∈ l, -9223372036854775808 ≤ y ∧ y < 9223372036854775808) ∧ l.length ≤ 17592186044416 := by
  rcases open_ints Try.underlying27 Try.underlying3 (by kernel_rfl) hf with ⟨hcs, _⟩ | ⟨x, len0, cap0, zs, hcs, _, hl, hm, hz, hx, hcell, hwz⟩
  · exact ⟨_, [], hcs, ⟨none, 0, rfl, by simp, by decide, fun _ => rfl, fun k hk => by simp at hk⟩, by simp, by simp⟩
  · have hz' : zs.length = cap0 := by simpa using hz
    have hd := congrArg Prod.fst hx
    simp only at hd
    rw [hd] at hs
    simp only [DataW.weights, Try.underlying27] at hs
    have e : (zs.take len0).length = len0 := by simp; omega
    refine ⟨_, zs.take len0, hcs, ⟨some x, cap0, by rw [e], by omega, hm, fun h => by simp at h, fun k hk => ?_⟩, fun y hy => ?_, ?_⟩
    · rw [e] at hk
      obtain ⟨b, off, spot⟩ := x
      have hc := hcell k (by omega)
      have hspot : spot = none := by
        have h0 := World.cell?_spot (hcell 0 (by omega))
        simpa [Addr.add] using h0
      subst hspot
      refine ⟨b, off, rfl, ?_⟩
      rw [add_plain] at hc
      rw [hc]
      have hg : zs.getD k 0 = (zs.take len0).getD k 0 := by
        rw [List.getD_eq_getElem?_getD, List.getD_eq_getElem?_getD, List.getElem?_take_of_lt hk]
      rw [hg]
    · have := bounds_i64 (hwz _ (List.mem_of_mem_take hy))
      exact ⟨this.1, by have := this.2; omega⟩
    · have := hs _ (List.mem_cons_self)
      rw [bytesOf_int] at this
      simp only [lits, List.length_map, List.length_take, reachBytes] at this
      rw [e]; omega
set_option maxRecDepth 100000 in
theorem open_size {H : Type} {enc : TypeId × Value → H} {W : World} {base : Nat} {v : Value} {d : DataW H} {p : List MemPlace}
    (hv : Value.okWide Try.prog W .any base 47 v) (h : DataW.Trod enc Try.prog W 0 (fun _ => true) true 47 v d p)
    (hs : ∀ n ∈ d.weights Try.prog 47, n ≤ reachBytes) : ∃ z, Sz W v z ∧ z.t.length ≤ 17592186044416 := by
  obtain ⟨cs, rfl, _⟩ := okWide_struct Try.underlying47 hv
  obtain ⟨fuel, hf⟩ := h
  have hf' : DataW.trod enc Try.prog W 0 (fun _ => true) true fuel 47 cs.toList = some (d, p) := hf
  obtain ⟨xs, n, _, hx, hl, hlen, hfl⟩ := DataW.trod_struct Try.underlying47 hf'
  rw [cellsOf_size] at hl
  obtain ⟨y0, y1, y2, rfl⟩ := list3 hlen
  obtain ⟨c0, c1, c2, hcs⟩ := list3 hl
  have t0 := hfl 0 _ rfl
  have t1 := hfl 1 _ rfl
  have t2 := hfl 2 _ rfl
  rw [hcs] at t0 t1 t2
  change DataW.trod enc Try.prog W 0 _ true n 3 (List.take (Try.prog.cellsOf 3) [c0, c1, c2]) = some y0 at t0
  change DataW.trod enc Try.prog W 0 _ true n 3 (List.take (Try.prog.cellsOf 3) [c1, c2]) = some y1 at t1
  change DataW.trod enc Try.prog W 0 _ true n 27 (List.take (Try.prog.cellsOf 27) [c2]) = some y2 at t2
  rw [cellsOf_int] at t0 t1
  rw [cellsOf_ints] at t2
  have hd := congrArg Prod.fst hx
  simp only at hd
  have hw2 : ∀ m ∈ y2.1.weights Try.prog 27, m ≤ reachBytes := fun m hm => hs m (by
    rw [hd]
    simp only [DataW.weights, Try.underlying47]
    exact DataW.weights_mem_each (j := 2) rfl rfl m hm)
  obtain ⟨k0, hk0, _, _⟩ := DataW.trod_int Try.underlying3 t0
  obtain ⟨k1, hk1, _, _⟩ := DataW.trod_int Try.underlying3 t1
  obtain ⟨u, l, hu, iu, bu, lu⟩ := ints_in t2 hw2
  simp only [List.take, List.cons.injEq, and_true] at hk0 hk1 hu
  subst hk0 hk1 hu
  refine ⟨⟨k0, k1, c2, l⟩, ⟨?_, iu, bu⟩, lu⟩
  show Value.agg cs = .agg #[.int .i64 k0, .int .i64 k1, c2]
  congr 1
  apply Array.ext'
  rw [hcs]
end Go.Proofs.Ytfdhccanacpanaa
