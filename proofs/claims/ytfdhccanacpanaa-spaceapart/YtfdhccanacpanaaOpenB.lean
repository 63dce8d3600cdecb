/-
  A SLICE OF BOOLS THAT CAME IN, OPENED.
-/
import Derived.Test.YtfdhccanacpanaaOpenQ
namespace Go.Proofs.Ytfdhccanacpanaa
open Go.ChangeShapes Go.WideShapes Go.ChangeAt Go.RowKit Go.Deep
theorem cellsOf_bool : Try.prog.cellsOf 4 = 1 := by kernel_rfl
theorem bytesOf_bool : Try.prog.bytesOf 4 = 1 := by kernel_rfl
set_option maxRecDepth 100000 in
theorem open_bools {H : Type} {enc : TypeId × Value → H} {W : World} {base : Nat} {v : Value} {d : DataW H} {p : List MemPlace}
    (hv : Value.okWide Try.prog W .any base 22 v) (h : DataW.Trod enc Try.prog W 0 (fun _ => true) true 22 v d p)
    (hs : ∀ n ∈ d.weights Try.prog 22, n ≤ reachBytes) : ∃ l, Bools W v l ∧ l.length ≤ 140737488355328 := by
  obtain ⟨a0, len0, cap0, rfl⟩ := okWide_slice Try.underlying22 hv
  obtain ⟨fuel, hf⟩ := h
  rcases open_slice Try.underlying22 hf with ⟨hcs, _⟩ | ⟨x, l, c, m, n, D, Pl, hcs, _, hl, hm, hmm, hx, hrow⟩
  · simp [Value.cells] at hcs
    obtain ⟨rfl, rfl, rfl⟩ := hcs
    exact ⟨[], ⟨none, 0, rfl, by simp, by decide, fun k hk => by simp at hk⟩, by simp⟩
  · simp [Value.cells] at hcs
    obtain ⟨rfl, rfl, rfl⟩ := hcs
    simp only [if_true] at hmm
    subst hmm
    have hd := congrArg Prod.fst hx
    simp only at hd
    rw [hd] at hs
    simp only [DataW.weights, Try.underlying22] at hs
    have key : ∀ i, i < len0 → ∃ y : Bool, W.cell? (x.add i) = some (.bool y) := fun i hi => by
      obtain ⟨cs', hc, ht⟩ := hrow i (by omega)
      rw [cellsOf_bool] at hc
      obtain ⟨y, rfl, _⟩ := DataW.trod_bool Try.underlying4 ht
      have := cells_at hc 0 _ rfl
      rw [Nat.mul_one] at this
      refine ⟨y, ?_⟩
      have e : (x.add i).add 0 = x.add i := by unfold Addr.add; split <;> simp_all
      rw [e] at this
      exact this
    obtain ⟨f, hf2⟩ := choose_lt key
    have hlen : ((List.range len0).map f).length = len0 := by simp
    have hget : ∀ k, k < len0 → ((List.range len0).map f).getD k false = f k := fun k hk => by simp [List.getD, hk]
    refine ⟨(List.range len0).map f, ⟨some x, _, by rw [hlen], by rw [hlen]; exact hl, hm, fun k hk => ?_⟩, ?_⟩
    · rw [hlen] at hk
      obtain ⟨b, off, spot⟩ := x
      have hspot : spot = none := by
        have h1 := World.cell?_spot (hf2 0 (by omega))
        simpa [Addr.add] using h1
      subst hspot
      refine ⟨b, off, rfl, ?_⟩
      have := hf2 k hk
      rw [add_plain] at this
      rw [hget k hk]; exact this
    · have := hs _ (List.mem_cons_self)
      rw [bytesOf_bool] at this
      simp only [List.length_map, List.length_range, reachBytes] at this
      rw [hlen]; omega
end Go.Proofs.Ytfdhccanacpanaa
