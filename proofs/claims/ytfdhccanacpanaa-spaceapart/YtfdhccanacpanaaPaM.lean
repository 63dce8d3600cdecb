/-
  SpaceApart: the states on its way.
-/
import Derived.Test.YtfdhccanacpanaaPaA
namespace Go.Proofs.Ytfdhccanacpanaa
open Go.RowKit
/-- Only free ones and old ones. -/
def Com (l : List UInt8) : Prop := ∀ x ∈ l, x = 0 ∨ x = 2
theorem opS_com (n : Nat) (t : List Bool) : Com (opS n t) := fun x hx => by
  unfold opS mkS at hx
  obtain ⟨i, _, rfl⟩ := List.mem_map.1 hx
  split <;> simp
theorem those_congr {ss ss' : List UInt8} {f : Nat} {l l' : List UInt8} (hl : l.length = l'.length) (h : ∀ i, i < l.length → ss.contains (l.getD i 0) = ss'.contains (l'.getD i 0)) : those ss f l = those ss' f l' := by
  induction l generalizing f l' with
  | nil =>
    cases l' with
    | nil => rfl
    | cons y l' => simp at hl
  | cons x l ih =>
    cases l' with
    | nil => simp at hl
    | cons y l' =>
      have h0 := h 0 (by simp)
      simp only [List.getD_cons_zero] at h0
      simp only [those]
      rw [h0, ih (by simpa using hl) (fun i hi => by simpa using h (i + 1) (by simpa using hi))]
theorem mk_those {l : List UInt8} (h : Com l) {n : Nat} (hn : l.length = n) : mkS 2 n (those [1, 2] 2 l) = l := by
  subst hn
  apply List.ext_getElem?
  intro i
  rcases Nat.lt_or_ge i l.length with q | q
  · have e := List.getElem?_eq_getElem q
    unfold mkS
    rw [List.getElem?_map, List.getElem?_range q, Option.map_some, e]
    congr 1
    have hm : ((2 + i : Nat) : Int) ∈ those [1, 2] 2 l ↔ ([1, 2] : List UInt8).contains l[i] = true := by
      rw [mem_those]
      constructor
      · rintro ⟨j, _, h2, h3⟩
        obtain rfl : j = i := by omega
        simpa [List.getD, e] using h3
      · intro h3
        exact ⟨i, q, rfl, by simpa [List.getD, e] using h3⟩
    rcases h _ (List.getElem_mem q) with e2 | e2
    · rw [if_neg (by rw [hm, e2]; decide), e2]
    · rw [if_pos (by rw [hm, e2]; decide), e2]
  · rw [List.getElem?_eq_none (by rw [mkS_length]; exact q), List.getElem?_eq_none q]
/-- The first j of t are held. -/
def gvS (l : List UInt8) (t : List Int) (j : Nat) : List UInt8 := (List.range l.length).map fun i => if ((2 + i : Nat) : Int) ∈ t.take j then 3 else l.getD i 0
theorem gvS_length (l : List UInt8) (t : List Int) (j : Nat) : (gvS l t j).length = l.length := by simp [gvS]
theorem gvS_at (l : List UInt8) (t : List Int) (j i : Nat) (hi : i < l.length) : (gvS l t j)[i]? = some (if ((2 + i : Nat) : Int) ∈ t.take j then 3 else l.getD i 0) := by
  unfold gvS
  rw [List.getElem?_map, List.getElem?_range hi]; rfl
theorem gvS_zero (l : List UInt8) (t : List Int) : gvS l t 0 = l := by
  apply List.ext_getElem?
  intro i
  rcases Nat.lt_or_ge i l.length with q | q
  · rw [gvS_at l t 0 i q, List.take_zero, if_neg (by simp), List.getD_eq_getElem?_getD, List.getElem?_eq_getElem q, Option.getD_some]
  · rw [List.getElem?_eq_none (by rw [gvS_length]; exact q), List.getElem?_eq_none q]
theorem gvS_next (l : List UInt8) (h : Com l) (j : Nat) (b : Int) (hb : (those [1, 2] 2 l)[j]? = some b) : giveR 2 (gvS l (those [1, 2] 2 l) j) b = (0, gvS l (those [1, 2] 2 l) (j + 1)) := by
  have hj := (List.getElem?_eq_some_iff.1 hb).1
  obtain ⟨i, hi, rfl, h3⟩ := (mem_those _ _ _ _).1 (List.mem_of_getElem? hb)
  have hx := List.getElem?_eq_getElem hi
  have hnot : ((2 + i : Nat) : Int) ∉ (those [1, 2] 2 l).take j := by
    intro hm
    obtain ⟨k, hk, e⟩ := List.mem_iff_getElem.1 hm
    rw [List.length_take] at hk
    have hr := (those_ris [1, 2] 2 l).at j hj
    have := hr.2.2 k (by omega)
    rw [List.getElem_take] at e
    rw [List.getD_eq_getElem?_getD, List.getElem?_eq_getElem (by omega), Option.getD_some, e, List.getD_eq_getElem?_getD, hb, Option.getD_some] at this
    omega
  have e2 : l.getD i 0 = 2 := by
    rw [List.getD_eq_getElem?_getD, hx, Option.getD_some] at h3 ⊢
    rcases h _ (List.getElem_mem hi) with q | q
    · rw [q] at h3; simp at h3
    · exact q
  have et : (((2 + i : Nat) : Int) - ((2 : Nat) : Int)).toNat = i := by omega
  have ev : (gvS l (those [1, 2] 2 l) j).getD i 0 = 2 := by
    rw [List.getD_eq_getElem?_getD, gvS_at l _ j i hi, if_neg hnot, Option.getD_some, e2]
  unfold giveR
  rw [if_pos (by rw [gvS_length]; omega), et, ev, if_neg (by decide), if_pos rfl]
  congr 1
  apply List.ext_getElem?
  intro k
  rcases Nat.lt_or_ge k l.length with q | q
  · rw [gvS_at l _ (j + 1) k q, List.take_add_one, hb, Option.toList_some]
    by_cases e : i = k
    · subst e
      rw [List.getElem?_set_self (by rw [gvS_length]; exact q), if_pos (by simp)]
    · rw [List.getElem?_set_ne e, gvS_at l _ j k q]
      have : ((2 + k : Nat) : Int) ≠ ((2 + i : Nat) : Int) := by omega
      simp only [List.mem_append, List.mem_singleton, this, or_false]
  · rw [List.getElem?_eq_none (by rw [List.length_set, gvS_length]; exact q), List.getElem?_eq_none (by rw [gvS_length]; exact q)]
theorem gvS_held (l : List UInt8) (h : Com l) : those [3] 2 (gvS l (those [1, 2] 2 l) (those [1, 2] 2 l).length) = those [1, 2] 2 l := by
  refine those_congr (gvS_length _ _ _) fun i hi => ?_
  rw [gvS_length] at hi
  rw [List.getD_eq_getElem?_getD, gvS_at l _ _ i hi, List.take_length, Option.getD_some]
  have hx := List.getElem?_eq_getElem hi
  have hm : ((2 + i : Nat) : Int) ∈ those [1, 2] 2 l ↔ ([1, 2] : List UInt8).contains (l.getD i 0) = true := by
    rw [mem_those]
    constructor
    · rintro ⟨j, _, h2, h3⟩
      obtain rfl : j = i := by omega
      exact h3
    · intro h3
      exact ⟨i, hi, rfl, h3⟩
  have hg : l.getD i 0 = 0 ∨ l.getD i 0 = 2 := by
    rw [List.getD_eq_getElem?_getD, hx, Option.getD_some]; exact h _ (List.getElem_mem hi)
  rcases hg with e | e
  · rw [if_neg (by rw [hm, e]; decide), e]; rfl
  · rw [if_pos (by rw [hm, e]; decide), e]; rfl
/-- A row of which the first j are y. -/
def fillI (y : Int) (j : Nat) (t : List Int) : List Int := List.replicate j y ++ t.drop j
theorem fillI_zero (y : Int) (t : List Int) : fillI y 0 t = t := by simp [fillI]
theorem fillI_length (y : Int) (j : Nat) (t : List Int) (h : j ≤ t.length) : (fillI y j t).length = t.length := by simp [fillI]; omega
theorem fillI_next (y : Int) (j : Nat) (t : List Int) (h : j < t.length) : (fillI y j t).set j y = fillI y (j + 1) t := by
  unfold fillI
  rw [List.set_append_right _ _ (by simp), List.length_replicate, Nat.sub_self, List.drop_eq_getElem_cons h, List.set_cons_zero, List.replicate_succ', List.append_assoc]; rfl
theorem fillI_all (y : Int) (t : List Int) : fillI y t.length t = List.replicate t.length y := by simp [fillI]
end Go.Proofs.Ytfdhccanacpanaa
