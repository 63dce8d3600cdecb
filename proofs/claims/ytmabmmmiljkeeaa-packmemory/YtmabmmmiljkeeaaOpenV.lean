/-
  A SLICE OF VALUES THAT CAME IN, OPENED.
-/
import Derived.Test.YtmabmmmiljkeeaaSmall2
import Derived.Test.YtmabmmmiljkeeaaOpen
import Derived.Deep.Slices
import Derived.Lib.SmallJoins
namespace Go.Proofs.Ytmabmmmiljkeeaa
open Go.ChangeShapes Go.WideShapes Go.ChangeAt Go.RowKit Go.Deep

theorem cellsOf_val : Try.prog.cellsOf 43 = 4 := by kernel_rfl
theorem bytesOf_val : Try.prog.bytesOf 43 = 40 := by kernel_rfl
theorem weights_all_mem {H : Type} {P : Program} {e : TypeId} {d : DataW H} {l : List (DataW H)} (h : d ∈ l) {n : Nat} (hn : n ∈ d.weights P e) : n ∈ DataW.weightsAll P e l := by
  induction l with
  | nil => simp at h
  | cons c l ih =>
    simp only [DataW.weightsAll, List.mem_append]
    rcases List.mem_cons.1 h with rfl | h
    · exact Or.inl hn
    · exact Or.inr (ih h)
theorem val_open {H : Type} {enc : TypeId × Value → H} {W : World} {fuel : Nat} {cs : List Value} {x : DataW H × List MemPlace} (h : DataW.trod enc Try.prog W 0 (fun _ => true) true fuel 43 cs = some x)
    (hs : ∀ n ∈ x.1.weights Try.prog 43, n ≤ reachBytes) : ∃ y : V, cs = y.cells ∧ y.fits := by
  obtain ⟨y0, y1, y2, y3, n, hx, hl, t0, t1, t2, t3⟩ := Go.Joins.trod_struct4 Try.underlying43 h
  rw [cellsOf_val] at hl
  match cs, hl with
  | [c0, c1, c2, c3], _ =>
    have e1 : Try.prog.cellsOf 3 = 1 := by kernel_rfl
    have e2 : Try.prog.cellsOf 41 = 1 := by kernel_rfl
    have e3 : Try.prog.cellsOf 2 = 1 := by kernel_rfl
    have e4 : Try.prog.cellsOf 9 = 1 := by kernel_rfl
    change DataW.trod enc Try.prog W 0 _ true n 3 (List.take (Try.prog.cellsOf 3) [c0, c1, c2, c3]) = some y0 at t0
    change DataW.trod enc Try.prog W 0 _ true n 41 (List.take (Try.prog.cellsOf 41) [c1, c2, c3]) = some y1 at t1
    change DataW.trod enc Try.prog W 0 _ true n 2 (List.take (Try.prog.cellsOf 2) [c2, c3]) = some y2 at t2
    change DataW.trod enc Try.prog W 0 _ true n 9 (List.take (Try.prog.cellsOf 9) [c3]) = some y3 at t3
    rw [e1] at t0
    rw [e2] at t1
    rw [e3] at t2
    rw [e4] at t3
    obtain ⟨k, hk, q0, wk⟩ := DataW.trod_int Try.underlying3 t0
    obtain ⟨u, hu, q1, wu⟩ := DataW.trod_int Try.underlying41 t1
    obtain ⟨i, hi, q2, wi⟩ := DataW.trod_int Try.underlying2 t2
    obtain ⟨t, ht, q3, wt⟩ := DataW.trod_string Try.underlying9 t3
    have bk := bounds_i64 wk
    have bu := bounds_u64 wu
    have bi := bounds_i64 wi
    simp only [List.take, List.cons.injEq, and_true] at hk hu hi ht
    subst hk hu hi ht q0 q1 q2 q3
    have hsz := hs t.data.toList.length (by
      rw [hx]
      simp only [DataW.weights, Try.underlying43]
      simp [DataW.weightsEach, DataW.weights])
    rw [str_size] at hsz
    simp only [reachBytes] at hsz
    refine ⟨⟨k, u.toNat, i, t⟩, ?_, ⟨⟨bk.1, by show k < _; omega⟩, by show u.toNat < _; omega, ⟨bi.1, by show i < _; omega⟩, by show t.size ≤ _; omega⟩⟩
    show _ = [Value.int .i64 k, .int .u64 (u.toNat : Int), .int .i64 i, .string t]
    rw [Int.toNat_of_nonneg bu.1]
theorem cells_at {W : World} {a : Addr} {n : Nat} {cs : List Value} (h : W.cells? 0 a n = some cs) (j : Nat) (y : Value) (hy : cs[j]? = some y) : W.cell? (a.add j) = some y := by
  obtain ⟨_, h2, h3⟩ := World.cells?_some h
  have hj : j < cs.length := by
    rcases Nat.lt_or_ge j cs.length with q | q
    · exact q
    · rw [List.getElem?_eq_none q] at hy; simp at hy
  rw [h3 j (by omega)]; exact hy
theorem open_vals {H : Type} {enc : TypeId × Value → H} {W : World} {base : Nat} {v : Value} {d : DataW H} {p : List MemPlace}
    (hv : Value.okWide Try.prog W .any base 35 v) (h : DataW.Trod enc Try.prog W 0 (fun _ => true) true 35 v d p)
    (hs : ∀ n ∈ d.weights Try.prog 35, n ≤ reachBytes) : ∃ xs, Vals W v xs ∧ (∀ x ∈ xs, x.fits) := by
  obtain ⟨a0, len0, cap0, rfl⟩ := okWide_slice Try.underlying35 hv
  obtain ⟨fuel, hf⟩ := h
  rcases open_slice Try.underlying35 hf with ⟨hcs, _⟩ | ⟨x, l, c, m, n, D, Pl, hcs, _, hl, hm, hmm, hx, hrow⟩
  · simp [Value.cells] at hcs
    obtain ⟨rfl, rfl, rfl⟩ := hcs
    exact ⟨[], ⟨none, 0, rfl, by simp, by decide, fun _ => rfl, fun k hk => by simp at hk⟩, fun x hx => by simp at hx⟩
  · simp [Value.cells] at hcs
    obtain ⟨rfl, rfl, rfl⟩ := hcs
    simp only [if_true] at hmm
    subst hmm
    have hd := congrArg Prod.fst hx
    simp only at hd
    rw [hd] at hs
    simp only [DataW.weights, Try.underlying35] at hs
    have key : ∀ i, i < len0 → ∃ y : V, y.fits ∧ ∀ j z, y.cells[j]? = some z → W.cell? ((x.add (i * 4)).add j) = some z := fun i hi => by
      obtain ⟨cs', hc, ht⟩ := hrow i (by omega)
      rw [cellsOf_val] at hc
      obtain ⟨y, rfl, hy⟩ := val_open ht (fun n hn => hs n (by
        simp only [List.mem_cons, List.mem_append]
        exact Or.inr (Or.inl (weights_all_mem (List.mem_map.2 ⟨i, List.mem_range.2 hi, rfl⟩) hn))))
      exact ⟨y, hy, fun j z hz => cells_at hc j z hz⟩
    haveI : Inhabited V := ⟨⟨0, 0, 0, ⟨#[]⟩⟩⟩
    obtain ⟨f, hf⟩ := choose_lt key
    have hlen : ((List.range len0).map f).length = len0 := by simp
    have hget : ∀ k, k < len0 → ((List.range len0).map f).getD k ⟨0, 0, 0, ⟨#[]⟩⟩ = f k := fun k hk => by simp [List.getD, hk]
    refine ⟨(List.range len0).map f, ⟨some x, _, by rw [hlen], by rw [hlen]; exact hl, hm, fun h => by simp at h, fun k hk => ?_⟩, fun y hy => ?_⟩
    · rw [hlen] at hk
      obtain ⟨b, off, spot⟩ := x
      have hspot : spot = none := by
        have h0 := World.cell?_spot ((hf 0 (by omega)).2 0 _ rfl)
        simpa [Addr.add] using h0
      subst hspot
      refine ⟨b, off, rfl, fun j z hz => ?_⟩
      rw [hget k hk] at hz
      have := (hf k hk).2 j z hz
      rw [add_plain, add_plain] at this
      exact this
    · obtain ⟨i, hi, rfl⟩ := List.mem_map.1 hy
      exact (hf i (List.mem_range.1 hi)).1
end Go.Proofs.Ytmabmmmiljkeeaa
