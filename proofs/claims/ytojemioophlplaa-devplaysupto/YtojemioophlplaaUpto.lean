/-
  WHAT THE SECOND FORMs BOUND GIVES: the lengths of slices.
-/
import Derived.Test.YtojemioophlplaaRows
namespace Go.Proofs.Ytojemioophlplaa

theorem bulk_pos {H : Type} (d : DataW H) : 0 < Rows.uptoBulk d := by
  cases d with
  | lit l => cases l <;> simp [Rows.uptoBulk]
  | _ => simp [Rows.uptoBulk]
theorem bulk_len {H : Type} (l : List (DataW H)) : l.length ≤ Rows.uptoBulkAll l := by
  induction l with
  | nil => simp [Rows.uptoBulkAll]
  | cons d l ih => have := bulk_pos d; simp only [Rows.uptoBulkAll, List.length_cons]; omega
theorem bulk_mem {H : Type} {d : DataW H} {l : List (DataW H)} (h : d ∈ l) : Rows.uptoBulk d ≤ Rows.uptoBulkAll l := by
  induction l with
  | nil => simp at h
  | cons e l ih =>
    simp only [Rows.uptoBulkAll]
    rcases List.mem_cons.1 h with rfl | h
    · omega
    · have := ih h; omega
theorem upto_all {H : Type} {l : List (DataW H)} (hk : Rows.uptoSmall H l = true) : Rows.uptoBulkAll l ≤ 1048576 := of_decide_eq_true hk
theorem upto_mem {H : Type} {ds : List (DataW H)} {d : DataW H} (hk : Rows.uptoSmall H ds = true) (h : d ∈ ds) : Rows.uptoBulk d ≤ 1048576 :=
  Nat.le_trans (bulk_mem h) (upto_all hk)
theorem upto_slice {H : Type} {ds : List (DataW H)} (hk : Rows.uptoSmall H ds = true) {elems spare : List (DataW H)} (h : DataW.slice elems spare ∈ ds) : elems.length + spare.length ≤ 1048576 := by
  have h1 := bulk_mem h
  have h2 := upto_all hk
  have h3 := bulk_len elems
  have h4 := bulk_len spare
  simp only [Rows.uptoBulk] at h1
  omega
end Go.Proofs.Ytojemioophlplaa
