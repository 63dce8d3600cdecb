/-
  OpenV, OpenW, joined.
-/
import Derived.Test.YtmkdmfjdhajiaaaGreatDoorOpenA
import Derived.Test.YtmkdmfjdhajiaaaGreatDoorNrB
import Derived.ProofKit
import Derived.OpenShut
import Derived.SizedLaws
import Derived.Deep.Slices
import Derived.ChangeSame
section S0
namespace Go.Proofs.YtmkdmfjdhajiaaaGreatDoor
open Go.ChangeShapes Go.WideShapes Go.ChangeAt Go.RowKit Go.Lib Go.Deep
set_option maxRecDepth 100000 in
theorem amt_openV {H : Type} {enc : TypeId × Value → H} {W : World} {sp : Bool} {fuel : Nat} {cs : List Value} {x : DataW H × List MemPlace} (h : DataW.trod enc Tryz.prog W 0 (fun _ => true) sp fuel 36 cs = some x) : ∃ y : Amt, cs = encA y ∧ y.2 ≤ 9223372036854775807 := by
  obtain ⟨y0, y1, m, hx, hl, h0, h1⟩ := trod_struct2 Tryz.underlying36 h
  rw [cellsOf_amt] at hl
  match cs, hl with
  | [c0, c1], _ =>
    have es : Tryz.prog.cellsOf 9 = 1 := by kernel_rfl
    have eu : Tryz.prog.cellsOf 2 = 1 := by kernel_rfl
    change DataW.trod _ Tryz.prog W 0 _ sp m 9 (List.take (Tryz.prog.cellsOf 9) [c0, c1]) = some y0 at h0
    change DataW.trod _ Tryz.prog W 0 _ sp m 2 (List.take (Tryz.prog.cellsOf 2) [c1]) = some y1 at h1
    rw [es] at h0
    rw [eu] at h1
    obtain ⟨t, ht, _, _⟩ := DataW.trod_string Tryz.underlying9 h0
    obtain ⟨k, hk, _, wk⟩ := DataW.trod_int Tryz.underlying2 h1
    simp only [List.take, List.cons.injEq, and_true] at ht hk
    subst ht hk
    exact ⟨(t, k), rfl, by have := bounds_i64 wk; simp only; omega⟩
set_option maxRecDepth 100000 in
theorem open_amtsV {H : Type} {enc : TypeId × Value → H} {W : World} {base : Nat} {v : Value} {d : DataW H} {p : List MemPlace}
    (hv : Value.okWide Tryz.prog W .any base 22 v) (h : DataW.Trod enc Tryz.prog W 0 (fun _ => true) true 22 v d p)
    (hs : ∀ n ∈ d.weights Tryz.prog 22, n ≤ reachBytes) : ∃ xs, Amts W v xs ∧ (xs.length + 1) * 24 ≤ 140737488355328 ∧ ∀ x ∈ xs, x.2 ≤ 9223372036854775807 := by
  obtain ⟨a0, len0, cap0, rfl⟩ := okWide_slice Tryz.underlying22 hv
  obtain ⟨fuel, hf⟩ := h
  rcases open_slice Tryz.underlying22 hf with ⟨hcs, _⟩ | ⟨x, l, c, m, n, D, Pl, hcs, _, hl, hm, hmm, hx, hrow⟩
  · simp [Value.cells] at hcs
    obtain ⟨rfl, rfl, rfl⟩ := hcs
    exact ⟨[], ⟨none, 0, rfl, by simp, by decide, fun _ => rfl, fun k hk => by simp at hk⟩, by decide, fun x hx => by cases hx⟩
  · simp [Value.cells] at hcs
    obtain ⟨rfl, rfl, rfl⟩ := hcs
    simp only [if_true] at hmm
    subst hmm
    have hd := congrArg Prod.fst hx
    simp only at hd
    rw [hd] at hs
    simp only [DataW.weights, Tryz.underlying22] at hs
    have key : ∀ i, i < len0 → ∃ y : Amt, y.2 ≤ 9223372036854775807 ∧ ∀ j z, (encA y)[j]? = some z → W.cell? ((x.add (i * 2)).add j) = some z := fun i hi => by
      obtain ⟨cs', hc, ht⟩ := hrow i (by omega)
      rw [cellsOf_amt] at hc
      obtain ⟨y, rfl, hy⟩ := amt_openV ht
      exact ⟨y, hy, fun j z hz => cells_at hc j z hz⟩
    obtain ⟨f, hf⟩ := choose_lt key
    have hlen : ((List.range len0).map f).length = len0 := by simp
    have hget : ∀ k, k < len0 → ((List.range len0).map f).getD k (⟨#[]⟩, 0) = f k := fun k hk => by simp [List.getD, hk]
    refine ⟨(List.range len0).map f, ⟨some x, _, by rw [hlen], by rw [hlen]; exact hl, hm, fun h => by simp at h, fun k hk => ?_⟩, ?_, ?_⟩
    · rw [hlen] at hk
      obtain ⟨b, off, spot⟩ := x
      have hspot : spot = none := by
        have h0 := World.cell?_spot ((hf 0 (by omega)).2 0 _ rfl)
        simpa [Addr.add] using h0
      subst hspot
      rw [hget k hk]
      have h0 := (hf k hk).2 0 _ rfl
      have h1 := (hf k hk).2 1 _ rfl
      rw [addA_plain, addA_plain] at h0 h1
      exact ⟨b, off, rfl, h0, h1⟩
    · have := hs _ (List.mem_cons_self)
      rw [bytesOf_amt] at this
      simp only [reachBytes, List.length_map, List.length_range] at this
      rw [hlen]
      omega
    · intro x hx
      obtain ⟨k, hk, rfl⟩ := List.mem_map.1 hx
      exact (hf k (List.mem_range.1 hk)).1
set_option maxRecDepth 100000 in
theorem open_rowV {H : Type} {enc : TypeId × Value → H} {W : World} {base : Nat} {v : Value} {d : DataW H} {p : List MemPlace}
    (hv : Value.okWide Tryz.prog W .any base 22 v) (h : DataW.Trod enc Tryz.prog W 0 (fun _ => true) true 22 v d p)
    (hs : ∀ n ∈ d.weights Tryz.prog 22, n ≤ reachBytes) : ∃ l, Row kAm W v l ∧ ((l.length + 1) * 24 ≤ 140737488355328 ∧ ∀ x ∈ l, x.v ≤ 9223372036854775807) := by
  obtain ⟨xs, h1, h2, h3⟩ := open_amtsV hv h hs
  refine ⟨ofA xs, row_amts h1, by rw [ofA_len]; exact h2, fun x hx => ?_⟩
  unfold ofA at hx
  obtain ⟨y, hy, rfl⟩ := List.mem_map.1 hx
  exact h3 y hy
end Go.Proofs.YtmkdmfjdhajiaaaGreatDoor
end S0

section S1
namespace Go.Proofs.YtmkdmfjdhajiaaaGreatDoor
open Go.ChangeShapes Go.WideShapes Go.ChangeAt Go.RowKit Go.Deep
namespace Ow
theorem oStr_size (s : ByteArray) : s.data.toList.length = s.size := by simp
theorem oWeights_all {H : Type} {P : Program} {e : TypeId} {d : DataW H} {l : List (DataW H)} (h : d ∈ l) {n : Nat} (hn : n ∈ d.weights P e) : n ∈ DataW.weightsAll P e l := by
  induction l with
  | nil => simp at h
  | cons c l ih =>
    simp only [DataW.weightsAll, List.mem_append]
    rcases List.mem_cons.1 h with rfl | h
    · exact Or.inl hn
    · exact Or.inr (ih h)
theorem oCells_at {W : World} {a : Addr} {n : Nat} {cs : List Value} (h : W.cells? 0 a n = some cs) (j : Nat) (y : Value) (hy : cs[j]? = some y) : W.cell? (a.add j) = some y := by
  obtain ⟨_, h2, h3⟩ := World.cells?_some h
  have hj : j < cs.length := by
    rcases Nat.lt_or_ge j cs.length with q | q
    · exact q
    · rw [List.getElem?_eq_none q] at hy; simp at hy
  rw [h3 j (by omega)]; exact hy
theorem oText {H : Type} {enc : TypeId × Value → H} {W : World} {fuel : Nat} {cs : List Value} {x : DataW H × List MemPlace} (h : DataW.trod enc Tryz.prog W 0 (fun _ => true) true fuel 9 cs = some x)
    (hs : ∀ n ∈ x.1.weights Tryz.prog 9, n ≤ reachBytes) : ∃ t : ByteArray, cs = [.string t] ∧ t.size ≤ 140737488355328 := by
  obtain ⟨t, ht, hx, _⟩ := DataW.trod_string Tryz.underlying9 h
  refine ⟨t, ht, ?_⟩
  have := hs t.data.toList.length (by rw [hx]; simp [DataW.weights])
  rw [oStr_size] at this
  simp only [reachBytes] at this; omega
theorem oInt {H : Type} {enc : TypeId × Value → H} {W : World} {fuel : Nat} {cs : List Value} {x : DataW H × List MemPlace} {T : TypeId} (hT : Tryz.prog.underlying T = some (.int .i64)) (h : DataW.trod enc Tryz.prog W 0 (fun _ => true) true fuel T cs = some x) :
    ∃ k : Int, cs = [.int .i64 k] ∧ -9223372036854775808 ≤ k ∧ k ≤ 9223372036854775807 := by
  obtain ⟨k, hk, _, w⟩ := DataW.trod_int hT h
  have := bounds_i64 w
  exact ⟨k, hk, this.1, by omega⟩
set_option maxRecDepth 100000 in
/-- A slice of elements of a kind. -/
theorem oRow {α : Type} (K : Kd α) (ok : K.Ok) (hc : Tryz.prog.cellsOf K.t = K.k) (hby : Tryz.prog.bytesOf K.t = K.b) {H : Type} {enc : TypeId × Value → H} {W : World} (G : α → Prop)
    (el : ∀ (fuel : Nat) (cs : List Value) (x : DataW H × List MemPlace), DataW.trod enc Tryz.prog W 0 (fun _ => true) true fuel K.t cs = some x → (∀ n ∈ x.1.weights Tryz.prog K.t, n ≤ reachBytes) → ∃ y : α, cs = K.c y ∧ G y)
    {fuel : Nat} {cs : List Value} {x : DataW H × List MemPlace} (hf : DataW.trod enc Tryz.prog W 0 (fun _ => true) true fuel K.s cs = some x)
    (hs : ∀ n ∈ x.1.weights Tryz.prog K.s, n ≤ reachBytes) : ∃ v l, cs = [v] ∧ Row K W v l ∧ (∀ y ∈ l, G y) ∧ l.length * K.b ≤ 140737488355328 := by
  rcases open_slice ok.und hf with ⟨hcs, _⟩ | ⟨x, len0, cap0, m, n, D, Pl, hcs, _, hl, hm, hmm, hx, hrow⟩
  · exact ⟨_, [], hcs, Row.nil W, fun y hy => by simp at hy, by simp⟩
  · simp only [if_true] at hmm
    subst hmm
    have hd := congrArg Prod.fst hx
    simp only at hd
    rw [hd] at hs
    simp only [DataW.weights, ok.und] at hs
    have key : ∀ i, i < len0 → ∃ y : α, G y ∧ ∀ j z, (K.c y)[j]? = some z → W.cell? ((x.add (i * K.k)).add j) = some z := fun i hi => by
      obtain ⟨cs', hc', ht⟩ := hrow i (by omega)
      rw [hc] at hc'
      obtain ⟨y, rfl, hy⟩ := el _ _ _ ht (fun n hn => hs n (by
        simp only [List.mem_cons, List.mem_append]
        exact Or.inr (Or.inl (oWeights_all (List.mem_map.2 ⟨i, List.mem_range.2 hi, rfl⟩) hn))))
      exact ⟨y, hy, fun j z hz => oCells_at hc' j z hz⟩
    haveI : Inhabited α := ⟨K.z⟩
    obtain ⟨f, hf2⟩ := choose_lt key
    have hlen : ((List.range len0).map f).length = len0 := by simp
    have hget : ∀ k, k < len0 → ((List.range len0).map f).getD k K.z = f k := fun k hk => by simp [List.getD, hk]
    refine ⟨_, (List.range len0).map f, hcs, ⟨some x, _, by rw [hlen], by rw [hlen]; exact hl, hm, (fun h => by simp at h), fun k hk => ?_⟩, fun y hy => ?_, ?_⟩
    · rw [hlen] at hk
      obtain ⟨b, off, spot⟩ := x
      have hspot : spot = none := by
        have p0 : 0 < (K.c (f 0)).length := by rw [ok.len]; exact ok.pos
        have h1 := World.cell?_spot ((hf2 0 (by omega)).2 0 _ (List.getElem?_eq_getElem p0))
        simpa [Addr.add] using h1
      subst hspot
      refine ⟨b, off, rfl, fun j y hy => ?_⟩
      rw [hget k hk] at hy
      have := (hf2 k hk).2 j y hy
      rw [add_plain, add_plain] at this
      exact this
    · obtain ⟨i, hi, rfl⟩ := List.mem_map.1 hy
      exact (hf2 i (List.mem_range.1 hi)).1
    · have := hs _ (List.mem_cons_self)
      rw [hby] at this
      simp only [List.length_map, List.length_range, reachBytes] at this
      rw [hlen]
      exact Nat.le_trans (Nat.mul_le_mul_right K.b (Nat.le_add_right len0 _)) (Nat.le_trans this (by decide))
theorem oL2 {α : Type} {cs : List α} (h : cs.length = 2) : ∃ c0 c1, cs = [c0, c1] := by
  match cs, h with
  | [c0, c1], _ => exact ⟨c0, c1, rfl⟩
set_option maxRecDepth 100000 in
theorem oAm {H : Type} {enc : TypeId × Value → H} {W : World} {fuel : Nat} {cs : List Value} {x : DataW H × List MemPlace} (h : DataW.trod enc Tryz.prog W 0 (fun _ => true) true fuel 36 cs = some x) (hs : ∀ n ∈ x.1.weights Tryz.prog 36, n ≤ reachBytes) : ∃ y : Am, cs = kAm.c y ∧ y.fit := by
  obtain ⟨xs, n, _, hx, hl, hlen, hfl⟩ := DataW.trod_struct Tryz.underlying36 h
  rw [show Tryz.prog.cellsOf 36 = 2 by kernel_rfl] at hl
  obtain ⟨y0, y1, rfl⟩ := oL2 hlen
  obtain ⟨c0, c1, hcs⟩ := oL2 hl
  have t0 := hfl 0 _ rfl
  have t1 := hfl 1 _ rfl
  rw [hcs] at t0 t1
  change DataW.trod enc Tryz.prog W 0 _ true n 9 (List.take (Tryz.prog.cellsOf 9) [c0, c1]) = some y0 at t0
  rw [show Tryz.prog.cellsOf 9 = 1 by kernel_rfl] at t0
  change DataW.trod enc Tryz.prog W 0 _ true n 2 (List.take (Tryz.prog.cellsOf 2) [c1]) = some y1 at t1
  rw [show Tryz.prog.cellsOf 2 = 1 by kernel_rfl] at t1
  simp only [List.take] at t0 t1
  have hd := congrArg Prod.fst hx
  simp only at hd
  have hw : ∀ (j : Nat) (t : TypeId) (y : DataW H), [9, 2][j]? = some t → [y0.1, y1.1][j]? = some y → ∀ m ∈ y.weights Tryz.prog t, m ≤ reachBytes := fun j t y h1 h2 m hm => hs m (by
    rw [hd]
    simp only [DataW.weights, Tryz.underlying36]
    exact DataW.weights_mem_each (j := j) h1 h2 m hm)
  obtain ⟨v0, e0, s0⟩ := oText t0 (hw 0 _ _ rfl rfl)
  obtain ⟨v1, e1, s1⟩ := oInt Tryz.underlying2 t1
  simp only [List.cons.injEq, and_true] at e0 e1
  subst e0 e1
  exact ⟨⟨v0, v1⟩, hcs, s0, s1.1, s1.2⟩
theorem oAms {H : Type} {enc : TypeId × Value → H} {W : World} {fuel : Nat} {cs : List Value} {x : DataW H × List MemPlace} (h : DataW.trod enc Tryz.prog W 0 (fun _ => true) true fuel 22 cs = some x) (hs : ∀ n ∈ x.1.weights Tryz.prog 22, n ≤ reachBytes) : ∃ v l, cs = [v] ∧ Row kAm W v l ∧ (∀ y ∈ l, y.fit) ∧ l.length * kAm.b ≤ 140737488355328 :=
  oRow kAm okAm (by kernel_rfl) (by kernel_rfl) (fun y => y.fit) (fun _ _ _ h hs => oAm h hs) h hs
set_option maxRecDepth 100000 in
theorem open_rowW {H : Type} {enc : TypeId × Value → H} {W : World} {base : Nat} {v : Value} {d : DataW H} {p : List MemPlace}
    (hv : Value.okWide Tryz.prog W .any base 22 v) (h : DataW.Trod enc Tryz.prog W 0 (fun _ => true) true 22 v d p)
    (hs : ∀ n ∈ d.weights Tryz.prog 22, n ≤ reachBytes) : ∃ l, Row kAm W v l ∧ ((l.length + 1) * 24 ≤ 140737488355328 ∧ ∀ x ∈ l, x.v ≤ 9223372036854775807 ∧ x.n.size ≤ 140737488355328) := by
  obtain ⟨xs, h1, h2, _⟩ := open_amtsV hv h hs
  obtain ⟨a0, len0, cap0, rfl⟩ := okWide_slice Tryz.underlying22 hv
  obtain ⟨fuel, hf⟩ := h
  obtain ⟨v', l, e, hr, hfit, _⟩ := oAms hf hs
  have e2 : v' = .slice a0 len0 cap0 := by simp [Value.cells] at e; exact e.symm
  subst e2
  refine ⟨l, hr, ?_, fun x hx => ⟨(hfit x hx).2.2, (hfit x hx).1⟩⟩
  obtain ⟨_, _, e3, _⟩ := hr.len
  obtain ⟨_, _, e4, _⟩ := h1.len
  simp only [Value.slice.injEq] at e3 e4
  rw [← e3.2.1, e4.2.1]; exact h2
end Ow
end Go.Proofs.YtmkdmfjdhajiaaaGreatDoor
end S1
