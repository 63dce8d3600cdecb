/-
  How long a key is.
-/
import Derived.Test.YtanpneahembhbaaGreatDoorKCmp
namespace Go.Proofs.YtanpneahembhbaaGreatDoor.K
open Go.RowKit
def zeros (t : ByteArray) : Nat := t.data.toList.count 0
theorem zeros_le (t : ByteArray) : zeros t ≤ t.size := by
  have := List.count_le_length (a := (0 : UInt8)) (l := t.data.toList)
  have e : t.data.toList.length = t.size := by simp
  unfold zeros; omega
theorem key_one (ts : List ByteArray) (k : Nat) (h : k < ts.length) : (keyL (ts.take (k + 1))).length = (keyL (ts.take k)).length + (ts.getD k ⟨#[]⟩).size + zeros (ts.getD k ⟨#[]⟩) + 2 := by
  rw [take_one ts k ⟨#[]⟩ h, keyL_app, List.length_append, keyL, List.length_append, enc_length]
  have e : (ts.getD k ⟨#[]⟩).data.toList.length = (ts.getD k ⟨#[]⟩).size := by simp
  rw [e]
  show _ + ((_ + zeros _) + 2) = _
  omega
theorem key_bound (ts : List ByteArray) (B : Nat) (h : ∀ t ∈ ts, t.size ≤ B) (k : Nat) (hk : k ≤ ts.length) : (keyL (ts.take k)).length ≤ k * (2 * B + 2) := by
  induction k with
  | zero => simp [keyL]
  | succ k ih =>
    have h1 := ih (by omega)
    have h2 := key_one ts k (by omega)
    have h3 : (ts.getD k ⟨#[]⟩).size ≤ B := h _ (by rw [List.getD_eq_getElem?_getD, List.getElem?_eq_getElem (by omega)]; exact List.getElem_mem (by omega))
    have h4 := zeros_le (ts.getD k ⟨#[]⟩)
    rw [Nat.succ_mul]
    omega
end Go.Proofs.YtanpneahembhbaaGreatDoor.K
