/-
  A SLICE OF WHOLE NUMBERS THAT CAME IN, OPENED.
-/
import Derived.Test.YtjnjliojkcnddaaLawOneForm
import Derived.Test.YtjnjliojkcnddaaOpen
namespace Go.Proofs.Ytjnjliojkcnddaa
open Go.ChangeShapes Go.WideShapes Go.ChangeAt Go.RowKit

theorem open_nums {H : Type} {enc : TypeId × Value → H} {W : World} {base : Nat} {v : Value} {d : DataW H} {p : List MemPlace}
    (hv : Value.okWide Try.prog W .any base 57 v) (h : DataW.Trod enc Try.prog W 0 (fun _ => true) true 57 v d p)
    (_hs : ∀ n ∈ d.weights Try.prog 57, n ≤ reachBytes) : ∃ ks, Nums W v ks ∧ (∀ k ∈ ks, -9223372036854775808 ≤ k ∧ k < 9223372036854775808) := by
  obtain ⟨a0, len0, cap0, rfl⟩ := okWide_slice Try.underlying57 hv
  obtain ⟨fuel, hf⟩ := h
  rcases open_ints Try.underlying57 Try.underlying3 (by kernel_rfl) hf with ⟨hcs, _⟩ | ⟨x, l, c, zs, hcs, _, hl, hm, hz, hx, hcell, hwz⟩
  · simp [Value.cells] at hcs
    obtain ⟨rfl, rfl, rfl⟩ := hcs
    exact ⟨[], ⟨none, 0, rfl, by simp, by decide, fun k hk => by simp at hk⟩, fun k hk => by simp at hk⟩
  · simp [Value.cells] at hcs
    obtain ⟨rfl, rfl, rfl⟩ := hcs
    have hz' : zs.length = cap0 := by simpa using hz
    have e : (zs.take len0).length = len0 := by simp; omega
    refine ⟨zs.take len0, ⟨some x, cap0, by rw [e], by omega, hm, fun k hk => ?_⟩, fun k hk => ?_⟩
    · rw [e] at hk
      obtain ⟨b, off, spot⟩ := x
      have hc := hcell k (by omega)
      have hspot : spot = none := by
        have h0 := World.cell?_spot (hcell 0 (by omega))
        simpa [Addr.add] using h0
      subst hspot
      refine ⟨b, off, rfl, ?_⟩
      rw [add_plain] at hc
      rw [hc]
      congr 2
      simp [List.getD, List.getElem?_take_of_lt hk]
    · have := bounds_i64 (hwz _ (List.mem_of_mem_take hk))
      exact ⟨this.1, by omega⟩
end Go.Proofs.Ytjnjliojkcnddaa
