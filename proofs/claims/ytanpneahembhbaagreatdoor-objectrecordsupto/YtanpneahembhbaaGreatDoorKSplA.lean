/-
  Split: the walk.
-/
import Derived.Test.YtanpneahembhbaaGreatDoorKSpl
namespace Go.Proofs.YtanpneahembhbaaGreatDoor.K
open Go.RowKit
theorem pieces_data (r : ByteArray) : (Lib.splitB ⟨#[0, 1]⟩ 0 (Lib.countB r ⟨#[0, 1]⟩) r).map (·.data.toList) = Lib.splitK [0, 1] 0 (Lib.count r.data.toList [0, 1]) r.data.toList := Lib.splitB_data ⟨#[0, 1]⟩ 0 (Lib.countB r ⟨#[0, 1]⟩) r
theorem pieces_dec (r : ByteArray) : (Lib.splitB ⟨#[0, 1]⟩ 0 (Lib.countB r ⟨#[0, 1]⟩) r).map dec = (Lib.splitK [0, 1] 0 (Lib.count r.data.toList [0, 1]) r.data.toList).map fun p => bytesOf (Lib.replaceAll p [0, 255] [0]) := by
  rw [← pieces_data, List.map_map]
  rfl
theorem pieces_size (r : ByteArray) : ∀ t ∈ Lib.splitB ⟨#[0, 1]⟩ 0 (Lib.countB r ⟨#[0, 1]⟩) r, t.size ≤ r.size := by
  intro t ht
  have h1 : t.data.toList ∈ (Lib.splitB ⟨#[0, 1]⟩ 0 (Lib.countB r ⟨#[0, 1]⟩) r).map (·.data.toList) := List.mem_map_of_mem ht
  rw [pieces_data] at h1
  have h2 := piece_le _ _ _ h1
  have e1 : t.data.toList.length = t.size := by simp
  have e2 : r.data.toList.length = r.size := by simp
  omega
/-- The first so many done. -/
def done (ts : List ByteArray) (k : Nat) : List ByteArray := (ts.take k).map dec ++ ts.drop k
theorem done_length (ts : List ByteArray) (k : Nat) : (done ts k).length = ts.length := by
  unfold done
  rw [List.length_append, List.length_map, List.length_take, List.length_drop]; omega
theorem done_at (ts : List ByteArray) (k : Nat) (h : k < ts.length) : (done ts k).getD k ⟨#[]⟩ = ts.getD k ⟨#[]⟩ := by
  unfold done
  rw [List.getD_eq_getElem?_getD, List.getD_eq_getElem?_getD, List.getElem?_append_right (by rw [List.length_map, List.length_take]; omega), List.length_map, List.length_take, List.getElem?_drop, Nat.min_eq_left (by omega), Nat.sub_self, Nat.add_zero]
theorem done_set (ts : List ByteArray) (k : Nat) (h : k < ts.length) : (done ts k).set k (dec (ts.getD k ⟨#[]⟩)) = done ts (k + 1) := by
  unfold done
  have hl : ((ts.take k).map dec).length = k := by rw [List.length_map, List.length_take]; omega
  rw [List.set_append_right _ _ (by omega), hl, Nat.sub_self]
  have hd : ts.drop k = ts.getD k ⟨#[]⟩ :: ts.drop (k + 1) := by
    rw [List.getD_eq_getElem?_getD, List.getElem?_eq_getElem h]
    simp
  rw [hd, List.set_cons_zero, take_one ts k ⟨#[]⟩ h, List.map_append]
  simp
theorem done_all (ts : List ByteArray) : done ts ts.length = ts.map dec := by
  unfold done
  rw [List.take_length, List.drop_length, List.append_nil]
end Go.Proofs.YtanpneahembhbaaGreatDoor.K
