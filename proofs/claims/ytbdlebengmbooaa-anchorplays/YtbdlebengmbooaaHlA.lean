/-
  The statements' own: full, same, sameInts, lives.
-/
import Derived.Test.YtbdlebengmbooaaWrB
import Derived.Test.YtbdlebengmbooaaMeA
import Derived.Test.YtbdlebengmbooaaPnA
namespace Go.Proofs.Ytbdlebengmbooaa
open Go.RowKit Go.Maps
theorem txt_beq (l m : List UInt8) : ((txt l).toList == (txt m).toList) = decide (l = m) := by
  have h : ∀ x : List UInt8, (txt x).toList = x := fun x => by rw [ByteArray.toList_eq]; simp [txt]
  rw [h, h]
  by_cases e : l = m
  · simp [e]
  · rw [decide_eq_false e, beq_eq_false_iff_ne]; exact e
theorem own_of {B : Nat} {w : World} {g n : Nat} {l : List UInt8} (h : w.heap[g]? = some (.cells (cells8 l).toArray 5 (0, 0))) (hB : B ≤ g) (hn : l.length = n) (hm : n ≤ maxLen) : Own B w (.slice (some ⟨g, 0, none⟩) n n) l := by
  subst hn
  refine ⟨by rw [cells8_length, Nat.mul_one], .inr ⟨g, l.length, _, rfl, hB, h, Nat.le_refl _, hm, by simp [cells8_length], ?_⟩⟩
  rw [Nat.mul_one]
  exact List.take_of_length_le (by simp [cells8_length])
/-- The first k bytes are c, the others 0. -/
def fillK (c : UInt8) (k : Nat) (n : Nat) : List UInt8 := List.replicate k c ++ List.replicate (n - k) 0
theorem fill_next (c : UInt8) (k n : Nat) (h : k < n) : (cells8 (fillK c k n)).toArray.setIfInBounds k (.int .u8 (c8 c)) = (cells8 (fillK c (k + 1) n)).toArray := by
  apply Array.ext'
  simp only [Array.toList_setIfInBounds]
  have e : fillK c (k + 1) n = (fillK c k n).set k c := by
    unfold fillK
    apply List.ext_getElem?
    intro j
    by_cases h1 : j < k
    · rw [List.getElem?_set_ne (by omega), List.getElem?_append_left (by simp; omega), List.getElem?_append_left (by simpa using h1), List.getElem?_replicate, List.getElem?_replicate, if_pos h1, if_pos (by omega)]
    · by_cases h2 : j = k
      · subst h2
        rw [List.getElem?_set_self (by simp; omega), List.getElem?_append_left (by simp), List.getElem?_replicate, if_pos (by omega)]
      · rw [List.getElem?_set_ne (by omega), List.getElem?_append_right (by simp; omega), List.getElem?_append_right (by simp; omega)]
        simp only [List.length_replicate, List.getElem?_replicate]
        by_cases h3 : j < n
        · rw [if_pos (by omega), if_pos (by omega)]
        · rw [if_neg (by omega), if_neg (by omega)]
  rw [e]
  unfold cells8
  rw [List.map_set]
theorem fill_length (c : UInt8) (k n : Nat) (h : k ≤ n) : (fillK c k n).length = n := by simp [fillK]; omega
theorem fill_all (c : UInt8) (n : Nat) : fillK c n n = List.replicate n c := by simp [fillK]
/-- The slice v holds the numbers l. -/
def Ints (w : World) (v : Value) (l : List Int) : Prop :=
  ∃ a cap, v = .slice a l.length cap ∧ l.length ≤ cap ∧ cap ≤ maxLen ∧ ∀ k, k < l.length → ∃ b off, a = some ⟨b, off, none⟩ ∧ w.cell? ⟨b, off + k, none⟩ = some (.int .i64 (l.getD k 0))
theorem OwnI.ints {B : Nat} {w : World} {v : Value} {l : List Int} (H : OwnI B w v l) : Ints w v l := by
  obtain ⟨_, ⟨hv, hn⟩ | ⟨g, cap, cur, hv, hb, hg, hn, hm, hs, ht⟩⟩ := H
  · exact ⟨none, 0, by rw [hv, hn], by omega, by decide, fun k hk => by omega⟩
  · refine ⟨_, cap, hv, hn, hm, fun k hk => ⟨g, 0, rfl, ?_⟩⟩
    rw [cell_of_row w g (0 + k) cur _ _ hg, Nat.zero_add, ← Array.getElem?_toList]
    have h1 : (cur.toList.take (l.length * 1))[k]? = cur.toList[k]? := by rw [List.getElem?_take_of_lt (by omega)]
    rw [← h1, ht]
    simp [cellsI, hk]
theorem Ints.below {w w' : World} {v : Value} {l : List Int} (H : Ints w v l) (hb : Below w.heap.size w w') : Ints w' v l := by
  obtain ⟨a, cap, e, h1, h2, h3⟩ := H
  refine ⟨a, cap, e, h1, h2, fun k hk => ?_⟩
  obtain ⟨b, off, ea, hc⟩ := h3 k hk
  exact ⟨b, off, ea, by rw [hb.cell (p := ⟨b, off + k, none⟩) (block_lt_of_cell hc)]; exact hc⟩
end Go.Proofs.Ytbdlebengmbooaa
