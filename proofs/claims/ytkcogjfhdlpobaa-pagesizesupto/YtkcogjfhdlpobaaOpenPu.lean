/-
  SLICES THAT CAME IN, OPENED UNDER THE SECOND FORM'S BOUND.
-/
import Derived.Test.YtkcogjfhdlpobaaPgT
import Derived.Test.YtkcogjfhdlpobaaOpen
import Derived.Test.YtkcogjfhdlpobaaUpto
import Derived.SliceStrings
import Derived.Deep.Slices
import Derived.ChangeSame
namespace Go.Proofs.Ytkcogjfhdlpobaa
open Go.ChangeShapes Go.WideShapes Go.ChangeAt Go.RowKit Go.Deep
set_option maxRecDepth 100000 in
theorem ints_inU {H : Type} {enc : TypeId × Value → H} {W : World} {fuel : Nat} {cs : List Value} {x : DataW H × List MemPlace} (hf : DataW.trod enc Try.prog W 0 (fun _ => true) true fuel 23 cs = some x)
    (hs : Rows.uptoBulk x.1 ≤ 1048576) : ∃ v l, cs = [v] ∧ Ints W v l ∧ In64 l ∧ l.length ≤ 1048576 := by
  rcases open_ints Try.underlying23 Try.underlying3 (by kernel_rfl) hf with ⟨hcs, _⟩ | ⟨x, len0, cap0, zs, hcs, _, hl, hm, hz, hx, hcell, hwz⟩
  · exact ⟨_, [], hcs, ⟨none, 0, rfl, by simp, by decide, fun _ => rfl, fun k hk => by simp at hk⟩, fun n h => by simp at h, by simp⟩
  · have hz' : zs.length = cap0 := by simpa using hz
    have hd := congrArg Prod.fst hx
    simp only at hd
    rw [hd] at hs
    simp only [Rows.uptoBulk] at hs
    have e : (zs.take len0).length = len0 := by simp; omega
    refine ⟨_, zs.take len0, hcs, ⟨some x, cap0, by rw [e], by omega, hm, fun h => by simp at h, fun k hk => ?_⟩, fun y hy => ?_, ?_⟩
    · rw [e] at hk
      obtain ⟨b, off, spot⟩ := x
      have hc := hcell k (by omega)
      have hspot : spot = none := by
        have h0 := World.cell?_spot (hcell 0 (by omega))
        simpa [Addr.add] using h0
      subst hspot
      refine ⟨b, off, rfl, ?_⟩
      rw [add_plain] at hc
      rw [hc]
      have hg : zs.getD k 0 = (zs.take len0).getD k 0 := by
        rw [List.getD_eq_getElem?_getD, List.getD_eq_getElem?_getD, List.getElem?_take_of_lt hk]
      rw [hg]
    · exact hwz _ (List.mem_of_mem_take hy)
    · have q := bulk_len (lits (H := H) .i64 (zs.take len0))
      simp only [lits, List.length_map] at q hs
      omega
set_option maxRecDepth 100000 in
theorem strs_inU {H : Type} {enc : TypeId × Value → H} {W : World} {fuel : Nat} {cs : List Value} {x : DataW H × List MemPlace} (hf : DataW.trod enc Try.prog W 0 (fun _ => true) true fuel 22 cs = some x)
    (hs : Rows.uptoBulk x.1 ≤ 1048576) : ∃ v l, cs = [v] ∧ Strs W v l ∧ l.length ≤ 1048576 := by
  rcases open_strings Try.underlying22 Try.underlying9 (by kernel_rfl) hf with ⟨hcs, _⟩ | ⟨x, len0, cap0, ss, hcs, _, hl, hm, hz, hx, hcell, hwz⟩
  · exact ⟨_, [], hcs, ⟨none, 0, rfl, by simp, by decide, fun _ => rfl, fun k hk => by simp at hk⟩, by simp⟩
  · have hz' : ss.length = cap0 := by simpa using hz
    have e : (ss.take len0).length = len0 := by simp; omega
    have hd := congrArg Prod.fst hx
    simp only at hd
    rw [hd] at hs
    simp only [Rows.uptoBulk] at hs
    refine ⟨_, ss.take len0, hcs, ⟨some x, cap0, by rw [e], by omega, hm, fun h => by simp at h, fun k hk => ?_⟩, ?_⟩
    · rw [e] at hk
      obtain ⟨b, off, spot⟩ := x
      have hc := hcell k (by omega)
      have hspot : spot = none := by
        have h0 := World.cell?_spot (hcell 0 (by omega))
        simpa [Addr.add] using h0
      subst hspot
      refine ⟨b, off, rfl, ?_⟩
      rw [add_plain] at hc
      rw [hc]
      congr 2
      have : k < ss.length := by omega
      simp [List.getD, List.getElem?_take_of_lt hk, this]
    · have q := bulk_len (strs (H := H) (ss.take len0))
      have hlen : (strs (H := H) (ss.take len0)).length = len0 := by simp [strs]; omega
      rw [e]
      omega
theorem open_numsU {H : Type} {enc : TypeId × Value → H} {W : World} {base : Nat} {v : Value} {d : DataW H} {p : List MemPlace}
    (hv : Value.okWide Try.prog W .any base 23 v) (h : DataW.Trod enc Try.prog W 0 (fun _ => true) true 23 v d p) (hs : Rows.uptoBulk d ≤ 1048576) : ∃ l, Ints W v l ∧ (In64 l ∧ l.length ≤ 1048576) := by
  obtain ⟨a0, len0, cap0, rfl⟩ := okWide_slice Try.underlying23 hv
  obtain ⟨fuel, hf⟩ := h
  obtain ⟨v, l, hc, h1, h2, h3⟩ := ints_inU (x := (d, p)) hf hs
  simp [Value.cells] at hc
  subst hc
  exact ⟨l, h1, h2, h3⟩
theorem open_strsU {H : Type} {enc : TypeId × Value → H} {W : World} {base : Nat} {v : Value} {d : DataW H} {p : List MemPlace}
    (hv : Value.okWide Try.prog W .any base 22 v) (h : DataW.Trod enc Try.prog W 0 (fun _ => true) true 22 v d p) (hs : Rows.uptoBulk d ≤ 1048576) : ∃ l, Strs W v l ∧ l.length ≤ 1048576 := by
  obtain ⟨a0, len0, cap0, rfl⟩ := okWide_slice Try.underlying22 hv
  obtain ⟨fuel, hf⟩ := h
  obtain ⟨v, l, hc, h1, h2⟩ := strs_inU (x := (d, p)) hf hs
  simp [Value.cells] at hc
  subst hc
  exact ⟨l, h1, h2⟩
end Go.Proofs.Ytkcogjfhdlpobaa
