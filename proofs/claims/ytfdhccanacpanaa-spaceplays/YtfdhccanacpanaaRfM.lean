/-
  The document's space: two lists; what they are of the states.
-/
import Derived.Test.YtfdhccanacpanaaSpH
namespace Go.Proofs.Ytfdhccanacpanaa
open Go.RowKit
theorem those_append (ss : List UInt8) (f : Nat) (a b : List UInt8) : those ss f (a ++ b) = those ss f a ++ those ss (f + a.length) b := by
  induction a generalizing f with
  | nil => simp [those]
  | cons x a ih =>
    simp only [List.cons_append, those]
    rw [ih (f + 1)]
    have e : f + 1 + a.length = f + (x :: a).length := by rw [List.length_cons]; omega
    rw [e]
    split <;> simp
theorem those_filter {ss ss' : List UInt8} {f : Nat} {l l' : List UInt8} (p : Int → Bool) (hl : l.length = l'.length) (h : ∀ i, i < l.length → (ss.contains (l.getD i 0) && p ((f + i : Nat) : Int)) = ss'.contains (l'.getD i 0)) : (those ss f l).filter p = those ss' f l' := by
  induction l generalizing f l' with
  | nil =>
    cases l' with
    | nil => rfl
    | cons y l' => simp at hl
  | cons x l ih =>
    cases l' with
    | nil => simp at hl
    | cons y l' =>
      have h0 := h 0 (by simp)
      simp only [List.getD_cons_zero, Nat.add_zero] at h0
      have hr := ih (f := f + 1) (l' := l') (by simpa using hl) (fun i hi => by
        have := h (i + 1) (by simpa using hi)
        simp only [List.getD_cons_succ] at this
        have e : f + (i + 1) = f + 1 + i := by omega
        rw [e] at this
        exact this)
      simp only [those]
      rw [← h0]
      cases hx : ss.contains x
      · simp only [Bool.false_and, Bool.false_eq_true, if_false]
        exact hr
      · simp only [Bool.true_and, if_true, List.filter_cons]
        rw [hr]
theorem those_same {ss ss' : List UInt8} {f : Nat} {l l' : List UInt8} (hl : l.length = l'.length) (h : ∀ i, i < l.length → ss.contains (l.getD i 0) = ss'.contains (l'.getD i 0)) : those ss f l = those ss' f l' := by
  have := those_filter (ss := ss) (ss' := ss') (f := f) (fun _ => true) hl (fun i hi => by rw [Bool.and_true]; exact h i hi)
  rw [List.filter_eq_self.2 (by simp)] at this
  exact this
theorem getD_set (l : List UInt8) (i j : Nat) (x : UInt8) (hi : i < l.length) : (l.set i x).getD j 0 = if i = j then x else l.getD j 0 := by
  rw [List.getD_eq_getElem?_getD]
  by_cases e : i = j
  · subst e; rw [List.getElem?_set_self hi, if_pos rfl]; rfl
  · rw [List.getElem?_set_ne e, if_neg e, List.getD_eq_getElem?_getD]
/-- What was taken stays, whatever is taken. -/
theorem was_set (f : Nat) (l : List UInt8) (i : Nat) (x : UInt8) (hi : i < l.length) (h : ([2, 3] : List UInt8).contains (l.getD i 0) = ([2, 3] : List UInt8).contains x) : those [2, 3] f (l.set i x) = those [2, 3] f l := by
  refine those_same (by simp) fun j _ => ?_
  rw [getD_set l i j x hi]
  split
  · rename_i e; subst e; exact h.symm
  · rfl
/-- One more is taken: it stands between those below and those above. -/
theorem now_take (f : Nat) (l : List UInt8) (i : Nat) (hi : l[i]? = some 0) : ∃ P Q, those [1, 2] f l = P ++ Q ∧ those [1, 2] f (l.set i 1) = P ++ ([((f + i : Nat) : Int)] ++ Q) ∧ (∀ x ∈ P, x < ((f + i : Nat) : Int)) ∧ (∀ x ∈ Q, ((f + i : Nat) : Int) < x) := by
  have hl := (List.getElem?_eq_some_iff.1 hi).1
  have e1 : l = l.take i ++ (0 :: l.drop (i + 1)) := by
    have : l[i] = 0 := (List.getElem?_eq_some_iff.1 hi).2
    rw [← this, ← List.drop_eq_getElem_cons hl, List.take_append_drop]
  have e2 : l.set i 1 = l.take i ++ (1 :: l.drop (i + 1)) := by
    conv => lhs; rw [e1]
    rw [List.set_append_right _ _ (by rw [List.length_take]; omega), List.length_take, Nat.min_eq_left (by omega), Nat.sub_self, List.set_cons_zero]
  have el : (l.take i).length = i := by rw [List.length_take]; omega
  refine ⟨those [1, 2] f (l.take i), those [1, 2] (f + i + 1) (l.drop (i + 1)), ?_, ?_, ?_, ?_⟩
  · conv => lhs; rw [e1]
    rw [those_append, el]; rfl
  · rw [e2, those_append, el]; rfl
  · intro x hx
    have := ris_bounds (those_ris [1, 2] f (l.take i)) x hx
    rw [el] at this
    exact this.2
  · intro x hx
    have := ris_bounds (those_ris [1, 2] (f + i + 1) (l.drop (i + 1))) x hx
    omega
theorem commit_was (f : Nat) (l : List UInt8) (h : Sts l) : those [2, 3] f (stlR 2 0 l) = those [1, 2] f l ∧ those [1, 2] f (stlR 2 0 l) = those [1, 2] f l := by
  have key : ∀ (a : UInt8), (a = 0 ∨ a = 1 ∨ a = 2 ∨ a = 3) → ([2, 3] : List UInt8).contains (stlS 2 0 a) = ([1, 2] : List UInt8).contains a ∧ ([1, 2] : List UInt8).contains (stlS 2 0 a) = ([1, 2] : List UInt8).contains a := by
    rintro a (rfl | rfl | rfl | rfl) <;> decide
  have at_ : ∀ i, i < l.length → (stlR 2 0 l).getD i 0 = stlS 2 0 (l.getD i 0) ∧ (l.getD i 0 = 0 ∨ l.getD i 0 = 1 ∨ l.getD i 0 = 2 ∨ l.getD i 0 = 3) := fun i hi => by
    unfold stlR
    rw [List.getD_eq_getElem?_getD, List.getElem?_map, List.getD_eq_getElem?_getD, List.getElem?_eq_getElem hi]
    exact ⟨rfl, h _ (List.getElem_mem hi)⟩
  constructor
  · refine those_same (stlR_length _ _ _) fun i hi => ?_
    rw [stlR_length] at hi
    rw [(at_ i hi).1]; exact (key _ (at_ i hi).2).1
  · refine those_same (stlR_length _ _ _) fun i hi => ?_
    rw [stlR_length] at hi
    rw [(at_ i hi).1]; exact (key _ (at_ i hi).2).2
theorem back_now (f : Nat) (l : List UInt8) (h : Sts l) : those [1, 2] f (stlR 0 2 l) = those [2, 3] f l ∧ those [2, 3] f (stlR 0 2 l) = those [2, 3] f l := by
  have key : ∀ (a : UInt8), (a = 0 ∨ a = 1 ∨ a = 2 ∨ a = 3) → ([1, 2] : List UInt8).contains (stlS 0 2 a) = ([2, 3] : List UInt8).contains a ∧ ([2, 3] : List UInt8).contains (stlS 0 2 a) = ([2, 3] : List UInt8).contains a := by
    rintro a (rfl | rfl | rfl | rfl) <;> decide
  have at_ : ∀ i, i < l.length → (stlR 0 2 l).getD i 0 = stlS 0 2 (l.getD i 0) ∧ (l.getD i 0 = 0 ∨ l.getD i 0 = 1 ∨ l.getD i 0 = 2 ∨ l.getD i 0 = 3) := fun i hi => by
    unfold stlR
    rw [List.getD_eq_getElem?_getD, List.getElem?_map, List.getD_eq_getElem?_getD, List.getElem?_eq_getElem hi]
    exact ⟨rfl, h _ (List.getElem_mem hi)⟩
  constructor
  · refine those_same (stlR_length _ _ _) fun i hi => ?_
    rw [stlR_length] at hi
    rw [(at_ i hi).1]; exact (key _ (at_ i hi).2).1
  · refine those_same (stlR_length _ _ _) fun i hi => ?_
    rw [stlR_length] at hi
    rw [(at_ i hi).1]; exact (key _ (at_ i hi).2).2
theorem mem_it (ss : List UInt8) (f : Nat) (l : List UInt8) (j : Nat) (hj : j < l.length) : ((f + j : Nat) : Int) ∈ those ss f l ↔ ss.contains (l.getD j 0) = true := by
  rw [mem_those]
  constructor
  · rintro ⟨i, _, h2, h3⟩
    obtain rfl : i = j := by omega
    exact h3
  · intro h
    exact ⟨j, hj, rfl, h⟩
theorem held_is (f : Nat) (l : List UInt8) (h : Sts l) : (those [2, 3] f l).filter (fun b => !decide (b ∈ those [1, 2] f l)) = those [3] f l := by
  refine those_filter _ rfl fun i hi => ?_
  have e : decide (((f + i : Nat) : Int) ∈ those [1, 2] f l) = ([1, 2] : List UInt8).contains (l.getD i 0) := by rw [Bool.eq_iff_iff, decide_eq_true_iff]; exact mem_it [1, 2] f l i hi
  rw [e]
  have hx : l.getD i 0 = 0 ∨ l.getD i 0 = 1 ∨ l.getD i 0 = 2 ∨ l.getD i 0 = 3 := by
    rw [List.getD_eq_getElem?_getD, List.getElem?_eq_getElem hi]; exact h _ (List.getElem_mem hi)
  rcases hx with e | e | e | e <;> rw [e] <;> rfl
/-- One less is taken. -/
theorem now_give (f : Nat) (l : List UInt8) (i : Nat) (x : UInt8) (hi : i < l.length) (hx : ([1, 2] : List UInt8).contains x = false) : (those [1, 2] f l).filter (fun b => !decide (b = ((f + i : Nat) : Int))) = those [1, 2] f (l.set i x) := by
  refine those_filter _ (by simp) fun j hj => ?_
  rw [getD_set l i j x hi]
  by_cases e : i = j
  · subst e
    rw [if_pos rfl, hx]; simp
  · rw [if_neg e]
    have : ¬ ((f + j : Nat) : Int) = ((f + i : Nat) : Int) := by omega
    rw [decide_eq_false this]; simp
theorem mk_sets (f n : Nat) (t : List Int) (h : Ris (f : Int) ((f + n : Nat) : Int) t) : those [1, 2] f (mkS f n t) = t ∧ those [2, 3] f (mkS f n t) = t := by
  have key : ∀ ss : List UInt8, ss.contains 2 = true → ss.contains 0 = false → those ss f (mkS f n t) = t := by
    intro ss h2 h0
    induction n generalizing f t with
    | zero =>
      cases t with
      | nil => rfl
      | cons x t => have h1 := h.1; have h3 := h.2.1; omega
    | succ n ih =>
      have e : mkS f (n + 1) t = (if (f : Int) ∈ t then 2 else 0) :: mkS (f + 1) n t := by
        unfold mkS
        rw [List.range_succ_eq_map, List.map_cons, List.map_map]
        simp only [Nat.add_zero]
        congr 1
        apply List.map_congr_left
        intro i _
        simp only [Function.comp, Nat.succ_eq_add_one]
        have : f + (i + 1) = f + 1 + i := by omega
        rw [this]
      rw [e]
      cases t with
      | nil =>
        simp only [List.not_mem_nil, if_false, those, h0, Bool.false_eq_true]
        exact ih (f + 1) [] trivial
      | cons x t =>
        obtain ⟨h1, h3, h4⟩ := h
        by_cases q : x = (f : Int)
        · subst q
          have hm : (f : Int) ∈ ((f : Int) :: t) := List.mem_cons_self
          simp only [those]
          rw [if_pos hm, h2, if_pos rfl]
          congr 1
          have e3 : (f : Int) + 1 = ((f + 1 : Nat) : Int) := by omega
          rw [e3] at h4
          have e4 : f + (n + 1) = f + 1 + n := by omega
          rw [e4] at h4
          refine Eq.trans ?_ (ih (f + 1) t h4)
          congr 1
          unfold mkS
          apply List.map_congr_left
          intro i _
          have : ((f + 1 + i : Nat) : Int) ≠ (f : Int) := by omega
          simp only [List.mem_cons, this, false_or]
        · have hm : ¬ (f : Int) ∈ (x :: t) := fun hm => by
            have := ris_bounds (l := x :: t) (a := (f : Int) + 1) (b := ((f + (n + 1) : Nat) : Int)) ⟨by omega, h3, h4⟩ _ hm
            omega
          simp only [those]
          rw [if_neg hm, h0, if_neg (by simp)]
          refine ih (f + 1) (x :: t) ⟨by omega, by have e4 : f + (n + 1) = f + 1 + n := by omega
                                                   rw [e4] at h3; exact h3, by have e4 : f + (n + 1) = f + 1 + n := by omega
                                                                               rw [e4] at h4; exact h4⟩
  exact ⟨key [1, 2] rfl rfl, key [2, 3] rfl rfl⟩
end Go.Proofs.Ytfdhccanacpanaa
