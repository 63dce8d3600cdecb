/-
  same, Compare, ahead, length: of every two lists of texts.
-/
import Derived.Test.YtanpneahembhbaaGreatDoorKStrs
namespace Go.Proofs.YtanpneahembhbaaGreatDoor.K
open Go.RowKit
theorem drop_at {α : Type} (l : List α) (k : Nat) (d : α) (h : k < l.length) : l.drop k = l.getD k d :: l.drop (k + 1) := by
  rw [List.getD_eq_getElem?_getD, List.getElem?_eq_getElem h]
  simp
theorem ahead_at (ts us : List ByteArray) (k : Nat) (h1 : k ≤ ts.length) (h2 : k ≤ us.length) (h : ts.take k = us.take k) : aheadB ts us = aheadB (ts.drop k) (us.drop k) := by
  induction k generalizing ts us with
  | zero => rfl
  | succ k ih =>
    cases ts with
    | nil => simp at h1
    | cons t r =>
      cases us with
      | nil => simp at h2
      | cons u q =>
        rw [List.take_succ_cons, List.take_succ_cons, List.cons.injEq] at h
        rw [aheadB, if_pos h.1, List.drop_succ_cons, List.drop_succ_cons]
        exact ih r q (by simpa using h1) (by simpa using h2) h.2
theorem eqB (t u : ByteArray) (h : t = u) : (t.toList == u.toList) = true := by rw [h]; simp
theorem neB (t u : ByteArray) (h : t ≠ u) : (t.toList == u.toList) = false := by
  rw [list_of_bytes, list_of_bytes, beq_eq_false_iff_ne]; exact data_ne h
theorem take_both {ts us : List ByteArray} {k : Nat} (h1 : k < ts.length) (h2 : k < us.length) (h : ts.take k = us.take k) (e : ts.getD k ⟨#[]⟩ = us.getD k ⟨#[]⟩) : ts.take (k + 1) = us.take (k + 1) := by
  rw [take_one ts k ⟨#[]⟩ h1, take_one us k ⟨#[]⟩ h2, h, e]
def cmpS (t u : ByteArray) : Int := if bl t.data.toList u.data.toList then -1 else if t = u then 0 else 1
/-- What Compare answers. -/
def cmpR (ts us : List ByteArray) : Int := if aheadB ts us then -1 else if ts = us then 0 else 1
theorem cmpR_one (ts us : List ByteArray) (h1 : aheadB ts us = false) (h2 : aheadB us ts = true) : cmpR ts us = 1 := by
  unfold cmpR
  rw [if_neg (by rw [h1]; simp), if_neg (fun h => by rw [h, ahead_refl] at h2; cases h2)]
theorem cmpR_same (ts : List ByteArray) : cmpR ts ts = 0 := by
  unfold cmpR
  rw [if_neg (by rw [ahead_refl]; simp), if_pos rfl]
end Go.Proofs.YtanpneahembhbaaGreatDoor.K
