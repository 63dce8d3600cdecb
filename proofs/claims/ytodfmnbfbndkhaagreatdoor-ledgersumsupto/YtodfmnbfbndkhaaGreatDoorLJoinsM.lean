/-
  What Join says, without the program.
-/
import Derived.Test.YtodfmnbfbndkhaaGreatDoorLStrs
import Derived.Lib.Join
namespace Go.Proofs.YtodfmnbfbndkhaaGreatDoor.L
open Go.RowKit
/-- Each of them behind a slash. -/
def pathOf (ts : List ByteArray) : List UInt8 := ts.flatMap fun t => 47 :: t.data.toList
def pathL (ts : List ByteArray) : List UInt8 := if ts = [] then [47] else pathOf ts
/-- What Join answers. -/
def joinR (ts : List ByteArray) : ByteArray × Int :=
  if ts.all nameB then (if ts.length ≤ 8 then (if (pathL ts).length ≤ 64 then (⟨(pathL ts).toArray⟩, 0) else (⟨#[]⟩, 41)) else (⟨#[]⟩, 41)) else (⟨#[]⟩, 40)
theorem join_pathOf (ts : List ByteArray) (h : ts ≠ []) : 47 :: Lib.join (ts.map (·.data.toList)) [47] = pathOf ts := by
  induction ts with
  | nil => exact absurd rfl h
  | cons t r ih =>
    cases r with
    | nil => simp [Lib.join, pathOf]
    | cons u r =>
      have := ih (by simp)
      rw [pathOf, List.flatMap_cons, ← pathOf, ← this]
      simp [Lib.join]
theorem join_pathL (ts : List ByteArray) : 47 :: Lib.join (ts.map (·.data.toList)) [47] = pathL ts := by
  unfold pathL
  split
  · subst ts; rfl
  · exact join_pathOf ts ‹_›
theorem name_size {t : ByteArray} (h : nameB t = true) : t.size ≤ 32 := by
  unfold nameB at h
  simp only [Bool.and_eq_true, decide_eq_true_eq] at h
  exact h.1.2
theorem pathOf_length (ts : List ByteArray) (h : ts.all nameB = true) : (pathOf ts).length ≤ ts.length * 33 := by
  induction ts with
  | nil => exact Nat.le_refl _
  | cons t r ih =>
    rw [List.all_cons, Bool.and_eq_true] at h
    have h1 := ih h.2
    have h2 : t.data.toList.length ≤ 32 := by simpa using name_size h.1
    rw [pathOf, List.flatMap_cons, ← pathOf, List.length_append, List.length_cons, List.length_cons]
    omega
theorem pathL_length (ts : List ByteArray) (h : ts.all nameB = true) : (pathL ts).length ≤ ts.length * 33 + 1 := by
  unfold pathL
  split
  · simp
  · have := pathOf_length ts h; omega
end Go.Proofs.YtodfmnbfbndkhaaGreatDoor.L
