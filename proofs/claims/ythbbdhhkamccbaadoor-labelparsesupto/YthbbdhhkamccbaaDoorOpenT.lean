/-
  A SLICE OF TEXTS THAT CAME IN, OPENED; THE WORLD's SHAPE.
-/
import Derived.Test.YthbbdhhkamccbaaDoorReadK
import Derived.ProofKit
import Derived.OpenShut
import Derived.SizedLaws
import Derived.SliceStrings
namespace Go.Proofs.YthbbdhhkamccbaaDoor
open Go.ChangeShapes Go.WideShapes Go.ChangeAt Go.RowKit
theorem str_size (s : ByteArray) : s.data.toList.length = s.size := by simp
theorem sized_arg {H : Type} {P : Program} {ts : List TypeId} {ds : List (DataW H)} (h : (DataW.weightsEach P ts ds).all (· ≤ reachBytes) = true) {j : Nat} {t : TypeId} {d : DataW H} (ht : ts[j]? = some t) (hd : ds[j]? = some d) : ∀ n ∈ d.weights P t, n ≤ reachBytes := fun n hn => by
  have := List.all_eq_true.1 h _ (DataW.weights_mem_each ht hd n hn)
  simpa using this
theorem bytesOf_str : Tryd.prog.bytesOf 9 = 16 := by kernel_rfl
theorem weights_mem_all {H : Type} {P : Program} {e : TypeId} {d : DataW H} {l : List (DataW H)} (h : d ∈ l) {n : Nat} (hn : n ∈ d.weights P e) : n ∈ DataW.weightsAll P e l := by
  induction l with
  | nil => simp at h
  | cons c l ih =>
    simp only [DataW.weightsAll, List.mem_append]
    rcases List.mem_cons.1 h with rfl | h
    · exact Or.inl hn
    · exact Or.inr (ih h)
set_option maxRecDepth 100000 in
theorem open_texts {H : Type} {enc : TypeId × Value → H} {W : World} {base : Nat} {v : Value} {d : DataW H} {p : List MemPlace}
    (hv : Value.okWide Tryd.prog W .any base 32 v) (h : DataW.Trod enc Tryd.prog W 0 (fun _ => true) true 32 v d p)
    (hs : ∀ n ∈ d.weights Tryd.prog 32, n ≤ reachBytes) : ∃ ts, Strs W v ts ∧ (∀ t ∈ ts, t.size ≤ 140737488355328) ∧ ts.length ≤ 8796093021952 := by
  obtain ⟨a0, len0, cap0, rfl⟩ := okWide_slice Tryd.underlying32 hv
  obtain ⟨fuel, hf⟩ := h
  rcases open_strings Tryd.underlying32 Tryd.underlying9 (by kernel_rfl) hf with ⟨hcs, _⟩ | ⟨x, l, c, ss, hcs, _, hl, hm, hz, hx, hcell, hwz⟩
  · simp [Value.cells] at hcs
    obtain ⟨rfl, rfl, rfl⟩ := hcs
    exact ⟨[], ⟨none, 0, rfl, by simp, by decide, fun _ => rfl, fun k hk => by simp at hk⟩, fun k hk => by simp at hk, by simp⟩
  · simp [Value.cells] at hcs
    obtain ⟨rfl, rfl, rfl⟩ := hcs
    have hz' : ss.length = cap0 := by simpa using hz
    have e : (ss.take len0).length = len0 := by simp; omega
    have hd := congrArg Prod.fst hx
    simp only at hd
    rw [hd] at hs
    simp only [DataW.weights, Tryd.underlying32] at hs
    refine ⟨ss.take len0, ⟨some x, cap0, by rw [e], by omega, hm, (fun h => by cases h), fun k hk => ?_⟩, fun t ht => ?_, ?_⟩
    · rw [e] at hk
      obtain ⟨b, off, spot⟩ := x
      have hc := hcell k (by omega)
      have hspot : spot = none := by
        have h0 := World.cell?_spot (hcell 0 (by omega))
        simpa [Addr.add] using h0
      subst hspot
      refine ⟨b, off, rfl, ?_⟩
      rw [add_plain] at hc
      rw [hc]
      congr 2
      have : k < ss.length := by omega
      simp [List.getD, List.getElem?_take_of_lt hk, this]
    · have := hs t.data.toList.length (by
        simp only [List.mem_cons, List.mem_append]
        refine Or.inr (Or.inl (weights_mem_all (d := .lit (.string t.data.toList)) ?_ (by simp [DataW.weights])))
        exact List.mem_map.2 ⟨t, ht, rfl⟩)
      rw [str_size] at this
      simp only [reachBytes] at this; omega
    · have := hs _ (List.mem_cons_self)
      rw [bytesOf_str] at this
      have hlen : (strs (H := H) (ss.take len0)).length = len0 := by simp [strs]; omega
      rw [hlen] at this
      simp only [reachBytes] at this
      rw [e]; omega

theorem hasM {W : World} (h : W.ShapedOpen Tryd.prog) : HasM W := Tryd.laysM145.s1_3 W h
end Go.Proofs.YthbbdhhkamccbaaDoor
