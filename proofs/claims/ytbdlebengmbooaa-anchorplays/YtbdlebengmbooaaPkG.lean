/-
  Rows of the call's own beside a device: lemmas.
-/
import Derived.Test.YtbdlebengmbooaaHlA
namespace Go.Proofs.Ytbdlebengmbooaa
open Go.RowKit Go.Maps
theorem own_shape {B : Nat} {w : World} {v : Value} {l : List UInt8} (H : Own B w v l) (h : 0 < l.length) : ∃ g cap, v = .slice (some ⟨g, 0, none⟩) l.length cap ∧ l.length ≤ cap ∧ cap ≤ maxLen ∧ B ≤ g ∧ g < w.heap.size := by
  obtain ⟨_, ⟨hv, hn⟩ | ⟨g, cap, cur, hv, hb, hg, hn, hm, hs, ht⟩⟩ := H
  · omega
  · exact ⟨g, cap, hv, hn, hm, hb, lt_of_heap hg⟩
theorem own_set {B : Nat} {w : World} {g n cap : Nat} {l : List UInt8} (H : Own B w (.slice (some ⟨g, 0, none⟩) n cap) l) (k : Nat) (c : UInt8) (hk : k < l.length) :
    (∃ u, w.cell? ⟨g, k, none⟩ = some u) ∧ w.frozen? ⟨g, k, none⟩ = false ∧ Own B (w.setCell ⟨g, k, none⟩ (.int .u8 (c8 c))) (.slice (some ⟨g, 0, none⟩) n cap) (l.set k c) := by
  have hb := H.bytes
  obtain ⟨a, cap2, e2, _, _, _, hc⟩ := hb
  obtain ⟨b, off, ea, hcell⟩ := hc k hk
  obtain ⟨h1, ⟨hv, hn⟩ | ⟨g2, cap3, cur, hv, hb, hg, hn, hm, hs, ht⟩⟩ := H
  · simp at hv
  · simp only [Value.slice.injEq, Option.some.injEq, Addr.mk.injEq, and_true] at hv e2
    obtain ⟨rfl, e3, rfl⟩ := hv
    refine ⟨?_, frozen_of_row w _ _ _ _ hg, ?_⟩
    · rw [← e2.1] at ea
      simp only [Option.some.injEq, Addr.mk.injEq, and_true] at ea
      obtain ⟨rfl, rfl⟩ := ea
      rw [Nat.zero_add] at hcell
      exact ⟨_, hcell⟩
    · refine ⟨by rw [cells8_length, Nat.mul_one], .inr ⟨g, cap, _, by rw [e3, List.length_set], hb, heap_setCell_same _ _ _ _ _ _ hg, by rw [List.length_set]; exact hn, hm, by simpa using hs, ?_⟩⟩
      rw [List.length_set, Array.toList_setIfInBounds, List.take_set, ht]
      unfold cells8
      rw [List.map_set]
/-- Bytes of a slice lie in no block of a device. -/
theorem Dv.bytes_ne {B B' : Nat} {w : World} {d mb mp : Nat} {cv v : Value} {s : DS} {l : List UInt8} (h : Dv B w d mb mp cv s) (ho : Own B' w v l) : ∀ k, v.ownBlock = some k → ¬ Foot d mb mp cv k := by
  intro k hk hf
  obtain ⟨cur, hc⟩ := row_block ho hk
  rcases hf with rfl | rfl | rfl | hf
  · rw [h.self] at hc; simp at hc
  · rw [h.med] at hc; simp at hc
  · obtain ⟨M, hM, _⟩ := h.latest
    obtain ⟨es, c, hm⟩ := map_block hM
    rw [hm] at hc; simp at hc
  · obtain ⟨cur2, hc2⟩ := row_block h.cache hf
    rw [hc2] at hc; simp at hc
/-- Rows of unlike types lie in unlike blocks. -/
theorem rows_ne {B B' e e' k k' n n' : Nat} {W : World} {v v' : Value} {xs xs' : List Value} (he : e ≠ e') (H : W.ownsRow B e k v n xs) (H' : W.ownsRow B' e' k' v' n' xs') : ∀ g, v.ownBlock = some g → ¬ (some g = v'.ownBlock) := by
  intro g h1 h2
  obtain ⟨c1, q1⟩ := row_block H h1
  obtain ⟨c2, q2⟩ := row_block H' h2.symm
  rw [q1] at q2
  simp at q2
  exact he q2.2
theorem foot_ne {B B' e k n : Nat} {W : World} {d mb mp : Nat} {cv v : Value} {s : DS} {xs : List Value} (h : Dv B W d mb mp cv s) (H : W.ownsRow B' e k v n xs) (h1 : e ≠ 62) (h2 : e ≠ 80) (h3 : e ≠ 86) : ∀ g, v.ownBlock = some g → ¬ Foot d mb mp cv g := by
  intro g hg hf
  obtain ⟨cur, hc⟩ := row_block H hg
  rcases hf with rfl | rfl | rfl | hf
  · rw [h.self] at hc; simp at hc; exact h1 hc.2.symm
  · rw [h.med] at hc; simp at hc; exact h2 hc.2.symm
  · obtain ⟨M, hM, _⟩ := h.latest
    obtain ⟨es, c, hm⟩ := map_block hM
    rw [hm] at hc; simp at hc
  · obtain ⟨cur2, hc2⟩ := row_block h.cache hf
    rw [hc2] at hc; simp at hc; exact h3 hc.2.symm
variable {W W' : World} {s : DS}
theorem dv_row {B B' e k n : Nat} {d mb mp : Nat} {cv v : Value} {xs : List Value} (h : Dv B W d mb mp cv s) (H : W.ownsRow B' e k v n xs) (h1 : e ≠ 62) (h2 : e ≠ 80) (h3 : e ≠ 86) (hk : Kept (fun k => some k = v.ownBlock) W W') : Dv B W' d mb mp cv s :=
  h.kept hk (fun k hf e => foot_ne h H h1 h2 h3 k e.symm hf)
theorem at_ne {v v' u : Value} (ha : At v v' W) (hn : ∀ k, v.ownBlock = some k → ¬ some k = u.ownBlock) (hu : ∀ k, u.ownBlock = some k → k < W.heap.size) : ∀ k, v'.ownBlock = some k → ¬ some k = u.ownBlock := fun k hk e => by
  rcases ha k hk.symm with h | h
  · exact hn k h.symm e
  · have := hu k e.symm; omega
theorem row_lt {B e k n : Nat} {v : Value} {xs : List Value} (H : W.ownsRow B e k v n xs) : ∀ g, v.ownBlock = some g → g < W.heap.size := fun g hg => by
  obtain ⟨cur, hc⟩ := row_block H hg
  exact lt_of_heap hc
end Go.Proofs.Ytbdlebengmbooaa
