/-
  Split: of every text.
-/
import Derived.Test.YtmkdmfjdhajiaaaGreatDoorLPieces
import Derived.Test.YtmkdmfjdhajiaaaGreatDoorLReadK
namespace Go.Proofs.YtmkdmfjdhajiaaaGreatDoor.L
open Go.RowKit
/-- The names of a path; nothing, if it is none. -/
def splitO (p : ByteArray) : Option (List ByteArray) :=
  if p.data.toList = [47] then some [] else
  if Lib.hasPrefix p.data.toList [47] = true ∧ p.size ≤ 64 ∧ ((pieces 47 p.data.toList.tail).map bytesOf).length ≤ 8 ∧ ((pieces 47 p.data.toList.tail).map bytesOf).all nameB = true then some ((pieces 47 p.data.toList.tail).map bytesOf) else none
def splitE (p : ByteArray) : Int := if (splitO p).isSome then 0 else 41
def splitT (p : ByteArray) : List ByteArray := (splitO p).getD []
theorem tail_of_prefix {l : List UInt8} (h : Lib.hasPrefix l [47] = true) : Lib.trimPrefix l [47] = l.tail := by
  unfold Lib.trimPrefix
  rw [if_pos h]
  cases l <;> rfl
theorem splitB_len (s : ByteArray) : Lib.countB s ⟨#[47]⟩ + 1 = ((pieces 47 s.data.toList).map bytesOf).length := by
  rw [← splitB_pieces, Lib.splitB_all ⟨#[47]⟩ (by decide) 0 _ s rfl]
/-- The names of a path that Join made. -/
theorem split_path (ts : List ByteArray) (h : ts.all nameB = true) (h8 : ts.length ≤ 8) (h64 : (pathL ts).length ≤ 64) : splitE (bytesOf (pathL ts)) = 0 ∧ splitT (bytesOf (pathL ts)) = ts := by
  cases ts with
  | nil => exact ⟨rfl, rfl⟩
  | cons t r =>
    have e : pathL (t :: r) = pathOf (t :: r) := rfl
    have ed : (bytesOf (pathL (t :: r))).data.toList = pathOf (t :: r) := by simp [bytesOf, e]
    have hp := pieces_path (t :: r) h (by simp)
    have hm : (pieces 47 (pathOf (t :: r)).tail).map bytesOf = t :: r := by
      rw [hp, List.map_map]
      conv => rhs; rw [← List.map_id (t :: r)]
      congr 1
    have hne : pathOf (t :: r) ≠ [47] := by
      intro h2
      rw [h2] at hm
      have ht := h
      rw [← hm] at ht
      exact absurd ht (by decide)
    have hs : (bytesOf (pathL (t :: r))).size ≤ 64 := by
      have : (bytesOf (pathL (t :: r))).size = (pathL (t :: r)).length := by simp [bytesOf, ByteArray.size]
      omega
    have hpf : Lib.hasPrefix (pathOf (t :: r)) [47] = true := by simp [pathOf, Lib.hasPrefix]
    have e : splitO (bytesOf (pathL (t :: r))) = some (t :: r) := by
      unfold splitO
      rw [ed, if_neg hne, hm, if_pos ⟨hpf, hs, h8, h⟩]
    unfold splitE splitT
    rw [e]
    exact ⟨rfl, rfl⟩
end Go.Proofs.YtmkdmfjdhajiaaaGreatDoor.L
