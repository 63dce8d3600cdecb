/-
  A SLICE OF CHANGES THAT CAME IN, OPENED.
-/
import Derived.Test.YtmdjicakjljmlaaSrF
import Derived.Test.YtmdjicakjljmlaaOpen
import Derived.Deep.Slices
import Derived.Deep.Strs
namespace Go.Proofs.Ytmdjicakjljmlaa
open Go.ChangeShapes Go.WideShapes Go.ChangeAt Go.RowKit Go.Deep
theorem cellsOf_ch : Try.prog.cellsOf 27 = 3 := by kernel_rfl
theorem bytesOf_ch : Try.prog.bytesOf 27 = 40 := by kernel_rfl
theorem weights_all_mem {H : Type} {P : Program} {e : TypeId} {d : DataW H} {l : List (DataW H)} (h : d ∈ l) {n : Nat} (hn : n ∈ d.weights P e) : n ∈ DataW.weightsAll P e l := by
  induction l with
  | nil => simp at h
  | cons c l ih =>
    simp only [DataW.weightsAll, List.mem_append]
    rcases List.mem_cons.1 h with rfl | h
    · exact Or.inl hn
    · exact Or.inr (ih h)
theorem ch_open {H : Type} {enc : TypeId × Value → H} {W : World} {fuel : Nat} {cs : List Value} {x : DataW H × List MemPlace} (h : DataW.trod enc Try.prog W 0 (fun _ => true) true fuel 27 cs = some x)
    (hs : ∀ n ∈ x.1.weights Try.prog 27, n ≤ reachBytes) : ∃ y : Ch, cs = y.cells ∧ y.k.size ≤ maxLen ∧ y.v.size ≤ maxLen := by
  obtain ⟨y0, y1, y2, n, hx, hl, t0, t1, t2⟩ := Go.Deep.trod_struct3 Try.underlying27 h
  rw [cellsOf_ch] at hl
  match cs, hl with
  | [c0, c1, c2], _ =>
    have e4 : Try.prog.cellsOf 9 = 1 := by kernel_rfl
    have e5 : Try.prog.cellsOf 4 = 1 := by kernel_rfl
    change DataW.trod enc Try.prog W 0 _ true n 9 (List.take (Try.prog.cellsOf 9) [c0, c1, c2]) = some y0 at t0
    change DataW.trod enc Try.prog W 0 _ true n 9 (List.take (Try.prog.cellsOf 9) [c1, c2]) = some y1 at t1
    change DataW.trod enc Try.prog W 0 _ true n 4 (List.take (Try.prog.cellsOf 4) [c2]) = some y2 at t2
    rw [e4] at t0 t1
    rw [e5] at t2
    obtain ⟨a, ha, q0, w0⟩ := DataW.trod_string Try.underlying9 t0
    obtain ⟨b, hb, q1, w1⟩ := DataW.trod_string Try.underlying9 t1
    obtain ⟨g, hg, q2⟩ := DataW.trod_bool Try.underlying4 t2
    simp only [List.take, List.cons.injEq, and_true] at ha hb hg
    subst ha hb hg
    have s0 := hs a.data.toList.length (by
      rw [hx]
      simp only [DataW.weights, Try.underlying27]
      simp [DataW.weightsEach, DataW.weights, q0])
    have s1 := hs b.data.toList.length (by
      rw [hx]
      simp only [DataW.weights, Try.underlying27]
      simp [DataW.weightsEach, DataW.weights, q1])
    rw [str_size] at s0 s1
    simp only [reachBytes] at s0 s1
    exact ⟨⟨a, b, g⟩, rfl, by unfold maxLen; show a.size ≤ _; omega, by unfold maxLen; show b.size ≤ _; omega⟩
theorem cells_at {W : World} {a : Addr} {n : Nat} {cs : List Value} (h : W.cells? 0 a n = some cs) (j : Nat) (y : Value) (hy : cs[j]? = some y) : W.cell? (a.add j) = some y := by
  obtain ⟨_, h2, h3⟩ := World.cells?_some h
  have hj : j < cs.length := by
    rcases Nat.lt_or_ge j cs.length with q | q
    · exact q
    · rw [List.getElem?_eq_none q] at hy; simp at hy
  rw [h3 j (by omega)]; exact hy
theorem open_chs {H : Type} {enc : TypeId × Value → H} {W : World} {base : Nat} {v : Value} {d : DataW H} {p : List MemPlace}
    (hv : Value.okWide Try.prog W .any base 22 v) (h : DataW.Trod enc Try.prog W 0 (fun _ => true) true 22 v d p)
    (hs : ∀ n ∈ d.weights Try.prog 22, n ≤ reachBytes) : ∃ xs, Chs W v xs ∧ LC xs := by
  obtain ⟨a0, len0, cap0, rfl⟩ := okWide_slice Try.underlying22 hv
  obtain ⟨fuel, hf⟩ := h
  rcases open_slice Try.underlying22 hf with ⟨hcs, _⟩ | ⟨x, l, c, m, n, D, Pl, hcs, _, hl, hm, hmm, hx, hrow⟩
  · simp [Value.cells] at hcs
    obtain ⟨rfl, rfl, rfl⟩ := hcs
    exact ⟨[], ⟨none, 0, rfl, by simp, by decide, fun _ => rfl, fun k hk => by simp at hk⟩, fun x hx => by simp at hx, by simp⟩
  · simp [Value.cells] at hcs
    obtain ⟨rfl, rfl, rfl⟩ := hcs
    simp only [if_true] at hmm
    subst hmm
    have hd := congrArg Prod.fst hx
    simp only at hd
    rw [hd] at hs
    simp only [DataW.weights, Try.underlying22] at hs
    have key : ∀ i, i < len0 → ∃ y : Ch, (y.k.size ≤ maxLen ∧ y.v.size ≤ maxLen) ∧ ∀ j z, y.cells[j]? = some z → W.cell? ((x.add (i * 3)).add j) = some z := fun i hi => by
      obtain ⟨cs', hc, ht⟩ := hrow i (by omega)
      rw [cellsOf_ch] at hc
      obtain ⟨y, rfl, hy⟩ := ch_open ht (fun n hn => hs n (by
        simp only [List.mem_cons, List.mem_append]
        exact Or.inr (Or.inl (weights_all_mem (List.mem_map.2 ⟨i, List.mem_range.2 hi, rfl⟩) hn))))
      exact ⟨y, hy, fun j z hz => cells_at hc j z hz⟩
    haveI : Inhabited Ch := ⟨Ch.z⟩
    obtain ⟨f, hf⟩ := choose_lt key
    have hlen : ((List.range len0).map f).length = len0 := by simp
    have hget : ∀ k, k < len0 → ((List.range len0).map f).getD k Ch.z = f k := fun k hk => by simp [List.getD, hk]
    refine ⟨(List.range len0).map f, ⟨some x, _, by rw [hlen], by rw [hlen]; exact hl, hm, fun h => by simp at h, fun k hk => ?_⟩, fun y hy => ?_, ?_⟩
    · rw [hlen] at hk
      obtain ⟨b, off, spot⟩ := x
      have hspot : spot = none := by
        have h0 := World.cell?_spot ((hf 0 (by omega)).2 0 _ rfl)
        simpa [Addr.add] using h0
      subst hspot
      refine ⟨b, off, rfl, fun j z hz => ?_⟩
      rw [hget k hk] at hz
      have := (hf k hk).2 j z hz
      rw [add_plain, add_plain] at this
      exact this
    · obtain ⟨i, hi, rfl⟩ := List.mem_map.1 hy
      exact (hf i (List.mem_range.1 hi)).1
    · rw [hlen]
      have h0 := hs _ (by exact List.mem_cons_self)
      simp only [List.length_map, List.length_range, bytesOf_ch, reachBytes] at h0
      omega
end Go.Proofs.Ytmdjicakjljmlaa
