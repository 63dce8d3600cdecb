/-
  Pending.
-/
import Derived.Test.YtbdlebengmbooaaSetB
namespace Go.Proofs.Ytbdlebengmbooaa
open Go.RowKit Go.Maps
def cellsI (l : List Int) : List Value := l.map (.int .i64 ·)
theorem cellsI_length (l : List Int) : (cellsI l).length = l.length := by simp [cellsI]
/-- The slice v holds the numbers l. -/
def OwnI (B : Nat) (w : World) (v : Value) (l : List Int) : Prop := w.ownsRow B 3 1 v l.length (cellsI l)
def blocksOf (l : List Wt) : List Int := l.map fun x => (x.1 : Int)
theorem info_int : (Try.prog.info? 3).map (fun i => (i.zero, i.size, i.bytes)) = some (some (.int .i64 0), 1, 8) := by kernel_rfl
def pend (l : List Wt) (k : Nat) : List Int := blocksOf (l.take k) ++ List.replicate (l.length - k) 0
theorem pend_next (l : List Wt) (k : Nat) (x : Wt) (hx : l[k]? = some x) : (cellsI (pend l k)).toArray.setIfInBounds k (.int .i64 (x.1 : Int)) = (cellsI (pend l (k + 1))).toArray := by
  have hk : k < l.length := (List.getElem?_eq_some_iff.1 hx).1
  apply Array.ext'
  simp only [Array.toList_setIfInBounds]
  apply List.ext_getElem?
  intro j
  unfold cellsI pend blocksOf
  rw [List.take_add_one, hx]
  by_cases h1 : j < k
  · rw [List.getElem?_set_ne (by omega), List.getElem?_map, List.getElem?_map, List.getElem?_append_left (by simp; omega), List.getElem?_append_left (by simp; omega), List.map_append, List.getElem?_append_left (by simp; omega)]
  · by_cases h2 : j = k
    · subst h2
      rw [List.getElem?_set_self (by simp; omega), List.getElem?_map, List.getElem?_append_left (by simp; omega), List.map_append, List.getElem?_append_right (by simp; omega)]
      simp [Nat.min_eq_left (Nat.le_of_lt hk)]
    · rw [List.getElem?_set_ne (by omega), List.getElem?_map, List.getElem?_map, List.getElem?_append_right (by simp; omega), List.getElem?_append_right (by simp; omega)]
      simp only [List.length_map, List.length_take, List.map_append, List.length_append, List.getElem?_replicate, Option.toList_some, List.length_cons, List.length_nil, List.map_cons, List.map_nil]
      by_cases h3 : j < l.length
      · rw [if_pos (by omega), if_pos (by omega)]
      · rw [if_neg (by omega), if_neg (by omega)]
theorem pend_all (l : List Wt) : pend l l.length = blocksOf l := by simp [pend]
theorem pend_length (l : List Wt) (k : Nat) (h : k ≤ l.length) : (pend l k).length = l.length := by simp [pend, blocksOf]; omega
end Go.Proofs.Ytbdlebengmbooaa
