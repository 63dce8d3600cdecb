/-
  One cell of a row of the call's own turned: entries, chains.
-/
import Derived.Test.YtmoghdpjemidgaaPsA
namespace Go.Proofs.Ytmoghdpjemidgaa
open Go.RowKit Go.Maps
namespace Ps
theorem raw_set {B : Nat} {t : TypeId} {k g n c N : Nat} {W : World} {cs : List Value} (H : W.ownsRow B t k (.slice (some ⟨g, 0, none⟩) n c) N cs) (j : Nat) (u : Value) : (W.setCell ⟨g, j, none⟩ u).ownsRow B t k (.slice (some ⟨g, 0, none⟩) n c) N (cs.set j u) := by
  obtain ⟨hl, ⟨hv, _⟩ | ⟨g', cap, cur, hv, hb, hg, hn, hm, hs, ht⟩⟩ := H
  · simp at hv
  · simp only [Value.slice.injEq, Option.some.injEq, Addr.mk.injEq, and_true] at hv
    obtain ⟨rfl, rfl, rfl⟩ := hv
    refine ⟨by rw [List.length_set]; exact hl, .inr ⟨g, c, cur.setIfInBounds j u, rfl, hb, heap_setCell_same _ _ _ _ _ _ hg, hn, hm, by simpa using hs, ?_⟩⟩
    rw [Array.toList_setIfInBounds, List.take_set, ht]
theorem own_setE {B g n c : Nat} {W : World} {k x : ByteArray} {r : List Ent} (H : OwnE B W (.slice (some ⟨g, 0, none⟩) n c) ((k, x) :: r)) (y : ByteArray) : OwnE B (W.setCell ⟨g, 1, none⟩ (.string y)) (.slice (some ⟨g, 0, none⟩) n c) ((k, y) :: r) := raw_set H 1 (.string y)
theorem own_setC {B g n c : Nat} {W : World} {x : Int} {r : List Int} (H : OwnI B W (.slice (some ⟨g, 0, none⟩) n c) (x :: r)) (y : Int) : OwnI B (W.setCell ⟨g, 0, none⟩ (.int .i64 y)) (.slice (some ⟨g, 0, none⟩) n c) (y :: r) := by
  have q := raw_set H 0 (.int .i64 y)
  show World.ownsRow _ _ _ _ _ _ _
  rw [show cellsI (y :: r) = (cellsI (x :: r)).set 0 (.int .i64 y) from rfl]
  exact q
theorem grown_one (W : World) (g j : Nat) (u : Value) : W.grownBy (W.setCell ⟨g, j, none⟩ u) (some g) := by
  have q := kept_set (F := fun k => some k = some g) W ⟨g, j, none⟩ u rfl
  exact ⟨q.os, q.tape, q.output, q.size, q.block⟩
variable {w W W' : World} {gn : Nat} {kd nx : Int} {ve vc vk vh : Value} {es : List Ent} {cs : List Int}
theorem Bn.setE {g n c : Nat} {k x : ByteArray} {r : List Ent} (h : Bn w W gn kd nx (.slice (some ⟨g, 0, none⟩) n c) vc vk vh ((k, x) :: r) cs) (y : ByteArray) : Bn w (W.setCell ⟨g, 1, none⟩ (.string y)) gn kd nx (.slice (some ⟨g, 0, none⟩) n c) vc vk vh ((k, y) :: r) cs := by
  obtain ⟨q1, q2, q3⟩ := h.growE (grown_one W g 1 (.string y))
  exact ⟨q1, own_setE h.e y, q2, q3, h.b⟩
theorem Bn.setC {g n c : Nat} {x : Int} {r : List Int} (h : Bn w W gn kd nx ve (.slice (some ⟨g, 0, none⟩) n c) vk vh es (x :: r)) (y : Int) : Bn w (W.setCell ⟨g, 0, none⟩ (.int .i64 y)) gn kd nx ve (.slice (some ⟨g, 0, none⟩) n c) vk vh es (y :: r) := by
  obtain ⟨q1, q2, q3⟩ := h.growC (grown_one W g 0 (.int .i64 y))
  exact ⟨q1, q2, own_setC h.c y, q3, h.b⟩
theorem own_atE {B : Nat} {W : World} {a : Option Addr} {n c : Nat} {e : Ent} {r : List Ent} (H : OwnE B W (.slice a n c) (e :: r)) : ∃ g, a = some ⟨g, 0, none⟩ ∧ 0 < n ∧ W.cell? ⟨g, 1, none⟩ = some (.string e.2) ∧ ∀ j, W.frozen? ⟨g, j, none⟩ = false := by
  obtain ⟨b, off, ea, c0, c1⟩ := H.ents.at 0 (by simp)
  obtain ⟨hl, ⟨hv, _⟩ | ⟨g', cap, cur, hv, hb, hg, hn, hm, hs, ht⟩⟩ := H
  · simp only [Value.slice.injEq] at hv
    rw [hv.1] at ea; simp at ea
  · simp only [Value.slice.injEq] at hv
    obtain ⟨rfl, rfl, rfl⟩ := hv
    simp only [Option.some.injEq, Addr.mk.injEq, and_true] at ea
    obtain ⟨rfl, rfl⟩ := ea
    refine ⟨g', rfl, by simp, ?_, fun j => frozen_of_row _ _ _ _ _ hg⟩
    simpa using c1
theorem own_atC {B : Nat} {W : World} {a : Option Addr} {n c : Nat} {x : Int} {r : List Int} (H : OwnI B W (.slice a n c) (x :: r)) : ∃ g, a = some ⟨g, 0, none⟩ ∧ 0 < n ∧ W.cell? ⟨g, 0, none⟩ = some (.int .i64 x) ∧ ∀ j, W.frozen? ⟨g, j, none⟩ = false := by
  obtain ⟨b, off, ea, c0⟩ := H.ints.at 0 (by simp)
  obtain ⟨hl, ⟨hv, _⟩ | ⟨g', cap, cur, hv, hb, hg, hn, hm, hs, ht⟩⟩ := H
  · simp only [Value.slice.injEq] at hv
    rw [hv.1] at ea; simp at ea
  · simp only [Value.slice.injEq] at hv
    obtain ⟨rfl, rfl, rfl⟩ := hv
    simp only [Option.some.injEq, Addr.mk.injEq, and_true] at ea
    obtain ⟨rfl, rfl⟩ := ea
    refine ⟨g', rfl, by simp, ?_, fun j => frozen_of_row _ _ _ _ _ hg⟩
    simpa using c0
theorem Bn.wf (h : Bn w W gn kd nx ve vc vk vh es cs) (i : Nat) : W.frozen? ⟨gn, i, none⟩ = false := frozen_of_row _ _ _ _ _ h.m
theorem zeros_bytes (W : World) (n : Nat) (hn : n ≤ 1000) : Bytes (W.alloc (.cells (madeCells #[.int .u8 0] n) 5)) (.slice (some ⟨W.heap.size, 0, none⟩) n n) (List.replicate n 0) := by
  refine ⟨some ⟨W.heap.size, 0, none⟩, n, by simp, by simp, by unfold maxLen; omega, fun h => by simp at h, fun k hk => ⟨W.heap.size, 0, rfl, ?_⟩⟩
  have hk' : k < n := by simpa using hk
  rw [Nat.zero_add, World.cell?_alloc_new, made_zeros]
  simp [cells8, hk']
theorem zeros_txt (n : Nat) : (txt (List.replicate n 0)).size = n := by simp [txt, ByteArray.size]
end Ps
end Go.Proofs.Ytmoghdpjemidgaa
