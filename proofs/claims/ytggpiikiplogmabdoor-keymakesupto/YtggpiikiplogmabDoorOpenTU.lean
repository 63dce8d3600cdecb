/-
  A SLICE OF TEXTS THAT CAME IN, OPENED, with what the second form's bound says of each text.
-/
import Derived.Test.YtggpiikiplogmabDoorOpenT
import Derived.Test.YtggpiikiplogmabDoorUpto
namespace Go.Proofs.YtggpiikiplogmabDoor
open Go.ChangeShapes Go.WideShapes Go.ChangeAt Go.RowKit
set_option maxRecDepth 100000 in
theorem open_texts_upto {H : Type} {enc : TypeId × Value → H} {W : World} {base : Nat} {v : Value} {d : DataW H} {p : List MemPlace}
    (hv : Value.okWide Tryd.prog W .any base 22 v) (h : DataW.Trod enc Tryd.prog W 0 (fun _ => true) true 22 v d p)
    (hs : ∀ n ∈ d.weights Tryd.prog 22, n ≤ reachBytes) : ∃ ts, Strs W v ts ∧ (∀ t ∈ ts, t.size ≤ Rows.uptoBulk d) ∧ ts.length ≤ 8796093021952 := by
  obtain ⟨a0, len0, cap0, rfl⟩ := okWide_slice Tryd.underlying22 hv
  obtain ⟨fuel, hf⟩ := h
  rcases open_strings Tryd.underlying22 Tryd.underlying9 (by kernel_rfl) hf with ⟨hcs, _⟩ | ⟨x, l, c, ss, hcs, _, hl, hm, hz, hx, hcell, hwz⟩
  · simp [Value.cells] at hcs
    obtain ⟨rfl, rfl, rfl⟩ := hcs
    exact ⟨[], ⟨none, 0, rfl, by simp, by decide, fun _ => rfl, fun k hk => by simp at hk⟩, fun k hk => by simp at hk, by simp⟩
  · simp [Value.cells] at hcs
    obtain ⟨rfl, rfl, rfl⟩ := hcs
    have hz' : ss.length = cap0 := by simpa using hz
    have e : (ss.take len0).length = len0 := by simp; omega
    have hd := congrArg Prod.fst hx
    simp only at hd
    rw [hd] at hs
    simp only [DataW.weights, Tryd.underlying22] at hs
    refine ⟨ss.take len0, ⟨some x, cap0, by rw [e], by omega, hm, (fun h => by cases h), fun k hk => ?_⟩, fun t ht => ?_, ?_⟩
    · rw [e] at hk
      obtain ⟨b, off, spot⟩ := x
      have hc := hcell k (by omega)
      have hspot : spot = none := by
        have h0 := World.cell?_spot (hcell 0 (by omega))
        simpa [Addr.add] using h0
      subst hspot
      refine ⟨b, off, rfl, ?_⟩
      rw [add_plain] at hc
      rw [hc]
      congr 2
      have : k < ss.length := by omega
      simp [List.getD, List.getElem?_take_of_lt hk, this]
    · have h1 : DataW.lit (.string t.data.toList) ∈ strs (H := H) (ss.take len0) := List.mem_map.2 ⟨t, ht, rfl⟩
      have h2 := bulk_mem h1
      rw [hd]
      simp only [Rows.uptoBulk] at h2 ⊢
      rw [str_size] at h2
      omega
    · have := hs _ (List.mem_cons_self)
      rw [bytesOf_str] at this
      have hlen : (strs (H := H) (ss.take len0)).length = len0 := by simp [strs]; omega
      rw [hlen] at this
      simp only [reachBytes] at this
      rw [e]; omega

end Go.Proofs.YtggpiikiplogmabDoor
