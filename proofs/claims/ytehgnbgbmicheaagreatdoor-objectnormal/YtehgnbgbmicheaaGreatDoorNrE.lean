/-
  Rows whose elements are turned (scope's ScE, its plain part).
-/
import Derived.Test.YtehgnbgbmicheaaGreatDoorObG
namespace Go.Proofs.YtehgnbgbmicheaaGreatDoor
open Go.RowKit
variable {α : Type} {K : Kd α}
theorem OwnR.parts {B : Nat} {w : World} {g n cap : Nat} {xs : List α} (H : OwnR K B w (.slice (some ⟨g, 0, none⟩) n cap) xs) : ∃ cur : Array Value, n = xs.length ∧ B ≤ g ∧ w.heap[g]? = some (.cells cur K.t (0, 0)) ∧ n ≤ cap ∧ cap ≤ maxLen ∧ cur.size = cap * K.k ∧ cur.toList.take (n * K.k) = cellsR K xs := by
  obtain ⟨hl, ⟨hv, hn⟩ | ⟨g', cap', cur, hv, hb, hg, hn, hm, hs, ht⟩⟩ := H
  · simp at hv
  · simp only [Value.slice.injEq, Option.some.injEq, Addr.mk.injEq, and_true] at hv
    obtain ⟨rfl, rfl, rfl⟩ := hv
    exact ⟨cur, rfl, hb, hg, hn, hm, hs, ht⟩
theorem OwnR.ofParts (ok : K.Ok) {B : Nat} {w : World} {g cap : Nat} {xs : List α} {cur : Array Value} (hb : B ≤ g) (hg : w.heap[g]? = some (.cells cur K.t (0, 0))) (hn : xs.length ≤ cap) (hm : cap ≤ maxLen) (hs : cur.size = cap * K.k) (ht : cur.toList.take (xs.length * K.k) = cellsR K xs) : OwnR K B w (.slice (some ⟨g, 0, none⟩) xs.length cap) xs :=
  ⟨cellsR_length ok xs, .inr ⟨g, cap, cur, rfl, hb, hg, hn, hm, hs, ht⟩⟩
theorem cellsR_set (ok : K.Ok) (xs : List α) (i j : Nat) (hi : i < xs.length) (hj : j < K.k) (y : α) (v : Value) (hy : K.c y = (K.c (xs.getD i K.z)).set j v) : (cellsR K xs).set (i * K.k + j) v = cellsR K (xs.set i y) := by
  induction xs generalizing i with
  | nil => simp at hi
  | cons x r ih =>
    cases i with
    | zero =>
      rw [List.getD_cons_zero] at hy
      rw [List.set_cons_zero, cellsR, cellsR, List.flatMap_cons, List.flatMap_cons, Nat.zero_mul, Nat.zero_add, List.set_append_left _ _ (by rw [ok.len]; exact hj), hy]
    | succ i =>
      rw [List.getD_cons_succ] at hy
      have := ih i (by simpa using hi) hy
      rw [List.set_cons_succ, cellsR, cellsR, List.flatMap_cons, List.flatMap_cons, List.set_append_right _ _ (by rw [ok.len, Nat.succ_mul]; omega), ok.len, show (i + 1) * K.k + j - K.k = i * K.k + j by rw [Nat.succ_mul]; omega]
      rw [cellsR, cellsR] at this
      rw [this]
theorem OwnR.set (ok : K.Ok) {B : Nat} {w : World} {g n cap : Nat} {xs : List α} (H : OwnR K B w (.slice (some ⟨g, 0, none⟩) n cap) xs) (i j : Nat) (hi : i < xs.length) (hj : j < K.k) (y : α) (v : Value) (hy : K.c y = (K.c (xs.getD i K.z)).set j v) : OwnR K B (w.setCell ⟨g, i * K.k + j, none⟩ v) (.slice (some ⟨g, 0, none⟩) n cap) (xs.set i y) := by
  obtain ⟨cur, rfl, hbg, hg, hnc, hcm, hsz, ht⟩ := H.parts
  have hg2 : (w.setCell ⟨g, i * K.k + j, none⟩ v).heap[g]? = some (.cells (cur.setIfInBounds (i * K.k + j) v) K.t (0, 0)) := heap_setCell_same _ _ _ _ _ _ hg
  have e : (xs.set i y).length = xs.length := by simp
  rw [← e]
  refine OwnR.ofParts ok hbg hg2 (by rw [e]; exact hnc) hcm (by simpa using hsz) ?_
  rw [e, Array.toList_setIfInBounds, List.take_set, ht]
  exact cellsR_set ok xs i j hi hj y v hy
theorem OwnR.someOf {α : Type} {K : Kd α} {B : Nat} {w : World} {a : Option Addr} {n c : Nat} {xs : List α} (H : OwnR K B w (.slice a n c) xs) (h : 0 < xs.length) : ∃ g, a = some ⟨g, 0, none⟩ ∧ n = xs.length ∧ B ≤ g ∧ g < w.heap.size := by
  obtain ⟨_, ⟨hv, hn⟩ | ⟨g, cap, cur, hv, hb, hg, _⟩⟩ := H
  · simp only [Value.slice.injEq] at hv; omega
  · simp only [Value.slice.injEq] at hv
    exact ⟨g, hv.1, hv.2.1, hb, (Array.getElem?_eq_some_iff.1 hg).1⟩
theorem frozen_row {w : World} {g : Nat} {cs : Array Value} {t : TypeId} (h : w.heap[g]? = some (.cells cs t (0, 0))) (j : Nat) : w.frozen? ⟨g, j, none⟩ = false := by
  unfold World.frozen?; rw [h]; simp
end Go.Proofs.YtehgnbgbmicheaaGreatDoor
