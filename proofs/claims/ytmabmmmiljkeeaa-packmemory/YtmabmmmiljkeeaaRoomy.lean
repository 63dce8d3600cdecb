/-
  THE WALKS: roomy; NewReader, with its rows own block.
-/
import Derived.Test.YtmabmmmiljkeeaaHand
namespace Go.Proofs.Ytmabmmmiljkeeaa
open Go.RowKit

def marks : List UInt8 := List.replicate 64 167
set_option maxHeartbeats 1000000 in
theorem roomy_any (v : Value) (l : List UInt8) (w : World) (hv : Bytes w v l) (hl : l.length ≤ 140737488351232) :
    Calls Try.prog 26 #[v] w fun e w' => ∃ v', e = .returned v' ∧ Own w.heap.size w' v' (l ++ marks) ∧ Below w.heap.size w w' := by
  have V : Aside (Bytes w v l) := hv
  clear hv
  go_enter Try.func26, Try.ntmps26
  go_wp2_with fail
  refine (own_any v l w V.out (by omega)).mono ?_
  rintro e w1 ⟨v1, rfl, ho, hb⟩
  have A : Aside (Own w.heap.size w1 v1 l ∧ Below w.heap.size w w1) := ⟨ho, hb⟩
  clear ho hb
  go_wp2_with fail
  go_loopg [3, 4] 64 (fun g so si wr => ∃ (k : Nat) (vo : Value), k ≤ 64 ∧ g = 64 - k ∧ si = .int .i64 k ∧ vo = so ∧ Own w.heap.size wr vo (l ++ List.replicate k 167) ∧ Below w.heap.size w wr)
  case atStart => exact ⟨0, v1, Nat.zero_le _, rfl, rfl, rfl, by simpa using A.out.1, A.out.2⟩
  case round =>
    obtain ⟨k, vo, hk, hg, rfl, rfl, ho, hb⟩ := hrel
    have R : Aside (gk = 64 - k ∧ Below w.heap.size w wr) := ⟨hg, hb⟩
    have O : Hid (Own w.heap.size wr vo (l ++ List.replicate k 167)) := ho
    have S : Hid (w.heap.size ≤ wr.heap.size) := hb.size
    have L : Hid ((l ++ List.replicate k (167 : UInt8)).length < 140737488355328) := by show _ < _; rw [List.length_append, List.length_replicate]; omega
    clear hg ho hb
    by_cases hlt : k < 64
    · have hlt' : (k : Int) < 64 := by omega
      go_wp2_with (at_builtin; refine app_byte rfl _ _ rfl rfl O.out S.out _ (167 : UInt8) ?hn rfl L.out ?_)
      case hn => rfl
      intro v' w' h1 h2 _
      have A2 : Aside (Own w.heap.size w' v' (l ++ List.replicate (k + 1) 167) ∧ Below w.heap.size w w') := ⟨by rw [List.replicate_succ']; exact h1, R.out.2.trans (grown_below h2 O.out S.out)⟩
      clear h1 h2 O S L
      go_wp2_with fail
      go_roundg (64 - (k + 1))
      case measure => have := R.out.1; omega
      case rel => exact ⟨k + 1, v', by omega, rfl, by go_num, rfl, A2.out.1, A2.out.2⟩
    · obtain rfl : k = 64 := by omega
      go_wp2_with fail
      go_ret
      exact ⟨_, rfl, O.out, R.out.2⟩
set_option maxHeartbeats 1000000 in
theorem newReader_own (v : Value) (l : List UInt8) (w : World) (hv : Bytes w v l) (hl : l.length ≤ 200000000000000) :
    Calls Try.prog 18 #[v] w fun e w' => ∃ g u, e = .returned (.pointer (some ⟨g, 0, none⟩)) ∧ w'.heap[g]? = some (.cells #[u, .int .i64 0] 78 (0, 0)) ∧ Own w.heap.size w' u l ∧ w.heap.size ≤ g ∧ Below w.heap.size w w' := by
  have V : Aside (Bytes w v l) := hv
  obtain ⟨a, cap, rfl, hlc, hcm⟩ := hv.len
  clear hv
  unfold maxLen at hcm
  go_enter Try.func18, Try.ntmps18
  go_wp2_with fail
  refine (clone_any _ l w V.out hl).mono ?_
  rintro e w1 ⟨u, rfl, ho, hb⟩
  obtain ⟨a1, n1, cap1, rfl⟩ : ∃ a1 n1 cap1, u = .slice a1 n1 cap1 := by
    obtain ⟨a1, cap1, e, _, _⟩ := ho.bytes.len
    exact ⟨a1, _, cap1, e⟩
  have A : Aside (Own w.heap.size w1 (.slice a1 n1 cap1) l ∧ Below w.heap.size w w1) := ⟨ho, hb⟩
  clear ho hb
  go_wp2_with fail
  go_ret
  refine ⟨w1.heap.size, .slice a1 n1 cap1, rfl, ?_, A.out.1.below ((Below.refl _ _).alloc (Nat.le_refl _) _), A.out.2.size, A.out.2.alloc A.out.2.size _⟩
  rw [heap_alloc_new]
/-- A row of the calls own that is not empty, opened. -/
theorem Own.row {B : Nat} {w : World} {v : Value} {l : List UInt8} (h : Own B w v l) (hl : 0 < l.length) : ∃ g cap cur, v = .slice (some ⟨g, 0, none⟩) l.length cap ∧ B ≤ g ∧ g < w.heap.size ∧ l.length ≤ cap ∧ cap ≤ maxLen ∧ cur.size = cap ∧ w.heap[g]? = some (.cells cur 5 (0, 0)) ∧ cur.toList.take l.length = cells8 l := by
  obtain ⟨_, ⟨_, h⟩ | ⟨g, cap, cur, hv, hB, hg, hn, hm, hs, ht⟩⟩ := h
  · omega
  · refine ⟨g, cap, cur, hv, hB, ?_, hn, hm, by omega, hg, by simpa using ht⟩
    rcases Nat.lt_or_ge g w.heap.size with h | h
    · exact h
    · rw [Array.getElem?_eq_none h] at hg; simp at hg
theorem Own.set {B : Nat} {w : World} {g n cap : Nat} {l : List UInt8} (h : Own B w (.slice (some ⟨g, 0, none⟩) n cap) l) (k : Nat) (hk : k < l.length) (c : UInt8) : Own B (w.setCell ⟨g, k, none⟩ (.int .u8 (c8 c))) (.slice (some ⟨g, 0, none⟩) n cap) (l.set k c) := by
  obtain ⟨g', cap', cur, hv, hB, hlt, hn, hm, hs, hg, ht⟩ := h.row (by omega)
  simp only [Value.slice.injEq, Option.some.injEq, Addr.mk.injEq, and_true] at hv
  obtain ⟨rfl, rfl, rfl⟩ := hv
  refine ⟨by simp [cells8_length], .inr ⟨g, cap, cur.setIfInBounds k (.int .u8 (c8 c)), by rw [List.length_set], hB, ?_, by rw [List.length_set]; exact hn, hm, by simpa using hs, ?_⟩⟩
  · rw [heap_setCell_same w g k _ _ _ hg]
  · rw [Array.toList_setIfInBounds, List.length_set, Nat.mul_one]
    have e : cells8 (l.set k c) = (cells8 l).set k (.int .u8 (c8 c)) := by simp [cells8, List.map_set]
    rw [e, ← ht, List.take_set]
theorem Own.cellAt {B : Nat} {w : World} {g n cap : Nat} {l : List UInt8} (h : Own B w (.slice (some ⟨g, 0, none⟩) n cap) l) (k : Nat) (hk : k < l.length) : w.cell? ⟨g, k, none⟩ = some (.int .u8 (c8 (l.getD k 0))) ∧ w.frozen? ⟨g, k, none⟩ = false := by
  obtain ⟨g', cap', cur, hv, hB, hlt, hn, hm, hs, hg, ht⟩ := h.row (by omega)
  simp only [Value.slice.injEq, Option.some.injEq, Addr.mk.injEq, and_true] at hv
  obtain ⟨rfl, rfl, rfl⟩ := hv
  refine ⟨?_, frozen_of_row w g k _ _ hg⟩
  rw [cell_of_row w g k cur _ _ hg, ← Array.getElem?_toList, ← cells8_at hk, ← ht, List.getElem?_take_of_lt hk]
end Go.Proofs.Ytmabmmmiljkeeaa
