/-
  A text as bytes.
-/
import Derived.Test.YtmkdmfjdhajiaaaGreatDoorTimes
import Derived.Laws.IdiomStrings
import Derived.Laws.Rows
namespace Go.Proofs.YtmkdmfjdhajiaaaGreatDoor
open Go.RowKit
theorem conv_bytes (w : World) (s : ByteArray) : ∃ cap w', (convert 9 60 (.string s)).run Tryz.prog w = .ok (.slice (some ⟨w.heap.size, 0, none⟩) s.size cap) w' ∧ Below w.heap.size w w' ∧
    (∀ k v, (s.data.toList.map fun b => (Value.int .u8 b.toNat))[k]? = some v → w'.cell? ⟨w.heap.size, k, none⟩ = some v) := by
  refine ⟨_, _, run_bytes_of_string w 9 60 5 s Tryz.underlying9 Tryz.underlying60 Tryz.underlying5, ?_, fun k v hv => ?_⟩
  · exact ((⟨rfl, rfl, rfl, Nat.le_refl _, fun _ _ => rfl⟩ : Below w.heap.size w w.drew)).alloc (Nat.le_refl _) _
  · have hh : (w.drew.alloc (.cells (bytesRow s (grownCap w s.size 0 5)) 5 ((bytesRow s (grownCap w s.size 0 5)).size, (bytesRow s (grownCap w s.size 0 5)).size + 1))).heap[w.heap.size]? = some (.cells (bytesRow s (grownCap w s.size 0 5)) 5 ((bytesRow s (grownCap w s.size 0 5)).size, (bytesRow s (grownCap w s.size 0 5)).size + 1)) := heap_alloc_new w.drew _
    rw [cell_of_row _ _ k _ _ _ hh]
    unfold bytesRow
    have hk : k < s.data.size := by
      rcases Nat.lt_or_ge k s.data.size with h | h
      · exact h
      · rw [List.getElem?_eq_none (by simpa using h)] at hv; simp at hv
    rw [Array.getElem?_append_left (by simpa using hk)]
    simpa using hv
end Go.Proofs.YtmkdmfjdhajiaaaGreatDoor
