/-
  A SLICE OF INTS THAT CAME IN, OPENED.
-/
import Derived.Test.YtgiaekbdchfbkaaPgU
import Derived.Test.YtgiaekbdchfbkaaOpen
import Derived.Deep.Slices
import Derived.ChangeSame
namespace Go.Proofs.Ytgiaekbdchfbkaa
open Go.ChangeShapes Go.WideShapes Go.ChangeAt Go.RowKit Go.Deep
theorem cells_at {W : World} {a : Addr} {n : Nat} {cs : List Value} (h : W.cells? 0 a n = some cs) (j : Nat) (y : Value) (hy : cs[j]? = some y) : W.cell? (a.add j) = some y := by
  obtain ⟨_, h2, h3⟩ := World.cells?_some h
  have hj : j < cs.length := by
    rcases Nat.lt_or_ge j cs.length with q | q
    · exact q
    · rw [List.getElem?_eq_none q] at hy; simp at hy
  rw [h3 j (by omega)]; exact hy
theorem cellsOf_int : Try.prog.cellsOf 3 = 1 := by kernel_rfl
theorem bytesOf_int : Try.prog.bytesOf 3 = 8 := by kernel_rfl
set_option maxRecDepth 100000 in
theorem open_nums {H : Type} {enc : TypeId × Value → H} {W : World} {base : Nat} {v : Value} {d : DataW H} {p : List MemPlace}
    (hv : Value.okWide Try.prog W .any base 23 v) (h : DataW.Trod enc Try.prog W 0 (fun _ => true) true 23 v d p)
    (hs : ∀ n ∈ d.weights Try.prog 23, n ≤ reachBytes) : ∃ l, Ints W v l ∧ (In64 l ∧ l.length ≤ 17592186043904) := by
  obtain ⟨a0, len0, cap0, rfl⟩ := okWide_slice Try.underlying23 hv
  obtain ⟨fuel, hf⟩ := h
  rcases open_slice Try.underlying23 hf with ⟨hcs, _⟩ | ⟨x, l, c, m, n, D, Pl, hcs, _, hl, hm, hmm, hx, hrow⟩
  · simp [Value.cells] at hcs
    obtain ⟨rfl, rfl, rfl⟩ := hcs
    exact ⟨[], ⟨none, 0, rfl, by simp, by decide, fun _ => rfl, fun k hk => by simp at hk⟩, fun n h => by simp at h, by simp⟩
  · simp [Value.cells] at hcs
    obtain ⟨rfl, rfl, rfl⟩ := hcs
    simp only [if_true] at hmm
    subst hmm
    have hd := congrArg Prod.fst hx
    simp only at hd
    rw [hd] at hs
    simp only [DataW.weights, Try.underlying23] at hs
    have key : ∀ i, i < len0 → ∃ y : Int, W.cell? (x.add i) = some (.int .i64 y) ∧ (Lit.int .i64 y).wf = true := fun i hi => by
      obtain ⟨cs', hc, ht⟩ := hrow i (by omega)
      rw [cellsOf_int] at hc
      obtain ⟨y, rfl, _, hw⟩ := DataW.trod_int Try.underlying3 ht
      have := cells_at hc 0 _ rfl
      rw [Nat.mul_one] at this
      refine ⟨y, ?_, ?_⟩
      · have e : (x.add i).add 0 = x.add i := by unfold Addr.add; split <;> simp_all
        rw [e] at this
        exact this
      · exact hw
    obtain ⟨f, hf2⟩ := choose_lt key
    have hlen : ((List.range len0).map f).length = len0 := by simp
    have hget : ∀ k, k < len0 → ((List.range len0).map f).getD k 0 = f k := fun k hk => by simp [List.getD, hk]
    refine ⟨(List.range len0).map f, ⟨some x, _, by rw [hlen], by rw [hlen]; exact hl, hm, (fun h => by simp at h), fun k hk => ?_⟩, ?_, ?_⟩
    · rw [hlen] at hk
      obtain ⟨b, off, spot⟩ := x
      have hspot : spot = none := by
        have h1 := World.cell?_spot (hf2 0 (by omega)).1
        simpa [Addr.add] using h1
      subst hspot
      refine ⟨b, off, rfl, ?_⟩
      have := (hf2 k hk).1
      rw [add_plain] at this
      rw [hget k hk]; exact this
    · intro y hy
      obtain ⟨i, hi, rfl⟩ := List.mem_map.1 hy
      exact (hf2 i (List.mem_range.1 hi)).2
    · have := hs _ (List.mem_cons_self)
      rw [bytesOf_int] at this
      simp only [List.length_map, List.length_range, reachBytes] at this
      rw [hlen]; omega
end Go.Proofs.Ytgiaekbdchfbkaa
