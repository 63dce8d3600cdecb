/-
  Path, above, Line, Parent, Under: of every text.
-/
import Derived.Test.YtlbnmafopfljcaaDoorLPathM
namespace Go.Proofs.YtlbnmafopfljcaaDoor.L
open Go.RowKit
set_option maxHeartbeats 2000000 in
theorem path_any (p : ByteArray) (w : World) (hm : HasM w) : Calls Tryd.prog 69 #[.string p] w fun e w' => e = .returned (.int .i64 (splitE p)) ∧ Below w.heap.size w w' := by
  have H := Lib.hid hm
  clear hm
  go_enter Tryd.func69, Tryd.ntmps69
  go_wp2_with fail
  refine (split_any p w H.out).mono ?_
  rintro e w1 ⟨v, rfl, _, hb⟩
  have B1 := Lib.hid hb
  clear hb
  go_wp2_with fail
  go_ret
  exact ⟨rfl, B1.out⟩
/-- The line of a path: it, and all above it. -/
def lineTo (ts : List ByteArray) (m : Nat) : List ByteArray := (List.range m).map fun j => pth (ts.take (ts.length - j))
def lineOf (ts : List ByteArray) : List ByteArray := lineTo ts (ts.length + 1)
theorem lineTo_succ (ts : List ByteArray) (m : Nat) : lineTo ts (m + 1) = lineTo ts m ++ [pth (ts.take (ts.length - m))] := by
  unfold lineTo
  rw [List.range_succ, List.map_append]
  rfl
theorem lineTo_length (ts : List ByteArray) (m : Nat) : (lineTo ts m).length = m := by simp [lineTo]
theorem pth_root {ts : List ByteArray} (hg : Good ts) (h : ts ≠ []) : ((pth ts).toList == [47]) = false := by
  rw [list_of_bytes, pth_data, pathL_ne h, beq_eq_false_iff_ne]
  cases ts with
  | nil => exact absurd rfl h
  | cons t r =>
    intro e
    have h2 := pathOf_two (r := r) (show nameB t = true by have := hg.1; rw [List.all_cons, Bool.and_eq_true] at this; exact this.1)
    rw [e] at h2
    exact absurd h2 (by decide)
theorem dropLast_take (ts : List ByteArray) (k : Nat) (hk : k + 1 ≤ ts.length) : (ts.take (k + 1)).dropLast = ts.take k := by
  rw [List.dropLast_eq_take, List.length_take, List.take_take]
  congr 1
  omega
end Go.Proofs.YtlbnmafopfljcaaDoor.L
