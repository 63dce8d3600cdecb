/-
  NUMBERS AS BYTES, the highest first, without the program; the shortest text between two.
-/
import Derived.Test.YtanpneahembhbaaGreatDoorKKeyM
namespace Go.Proofs.YtanpneahembhbaaGreatDoor.K
open Go
def val : List UInt8 → Nat
  | [] => 0
  | b :: l => b.toNat * 256 ^ l.length + val l
theorem val_lt (l : List UInt8) : val l < 256 ^ l.length := by
  induction l with
  | nil => simp [val]
  | cons b l ih =>
    rw [val, List.length_cons, Nat.pow_succ]
    have h1 : b.toNat ≤ 255 := by have := b.toNat_lt; omega
    have h2 : b.toNat * 256 ^ l.length ≤ 255 * 256 ^ l.length := Nat.mul_le_mul_right _ h1
    omega
theorem val_order (x y : List UInt8) (h : x.length = y.length) : bl x y = decide (val x < val y) := by
  induction x generalizing y with
  | nil =>
    cases y with
    | nil => rfl
    | cons _ _ => simp at h
  | cons a x ih =>
    cases y with
    | nil => simp at h
    | cons b y =>
      have hl : x.length = y.length := by simpa using h
      have lx := val_lt x
      have ly := val_lt y
      rw [bl_cons, val, val, hl, ih y hl]
      rw [hl] at lx
      generalize 256 ^ y.length = P at *
      by_cases e : a = b
      · subst e
        simp
      · rw [beq_eq_false_iff_ne.2 e, Bool.false_and, Bool.or_false]
        by_cases g : a < b
        · rw [decide_eq_true g]
          have g' : a.toNat + 1 ≤ b.toNat := UInt8.lt_iff_toNat_lt.1 g
          have := Nat.mul_le_mul_right P g'
          rw [Nat.add_mul] at this
          exact (decide_eq_true (by omega)).symm
        · rw [decide_eq_false g]
          have g' : b.toNat + 1 ≤ a.toNat := by
            have h1 : ¬ a.toNat < b.toNat := fun h => g (UInt8.lt_iff_toNat_lt.2 h)
            have h2 : a.toNat ≠ b.toNat := fun h => e (UInt8.toNat_inj.1 h)
            omega
          have := Nat.mul_le_mul_right P g'
          rw [Nat.add_mul] at this
          exact (decide_eq_false (by omega)).symm
theorem val_app (l : List UInt8) (b : UInt8) : val (l ++ [b]) = val l * 256 + b.toNat := by
  induction l with
  | nil => simp [val]
  | cons a l ih =>
    rw [List.cons_append, val, ih, val, List.length_append, List.length_singleton, Nat.pow_succ, Nat.add_mul, Nat.mul_assoc]
    omega
theorem val_inj (x y : List UInt8) (h : x.length = y.length) (e : val x = val y) : x = y := by
  refine bl_total x y ?_ ?_
  · rw [val_order x y h, e]; simp
  · rw [val_order y x h.symm, e]; simp
/-- k bytes of a number. -/
def num : Nat → Nat → List UInt8
  | 0, _ => []
  | k + 1, n => num k (n / 256) ++ [UInt8.ofNat n]
theorem num_length (k n : Nat) : (num k n).length = k := by
  induction k generalizing n with
  | zero => rfl
  | succ k ih => rw [num, List.length_append, ih]; rfl
theorem num_val (k n : Nat) (h : n < 256 ^ k) : val (num k n) = n := by
  induction k generalizing n with
  | zero => simp at h; subst h; rfl
  | succ k ih =>
    rw [num, val_app, ih (n / 256) (by rw [Nat.pow_succ] at h; omega)]
    have : (UInt8.ofNat n).toNat = n % 256 := by simp
    omega
/-! ### between -/
def agr : List UInt8 → List UInt8 → Nat
  | a :: x, b :: y => if a = b then agr x y + 1 else 0
  | _, _ => 0
def btw (a b : List UInt8) : List UInt8 := a.take (agr a b) ++ [if agr a b < a.length then a.getD (agr a b) 0 + 1 else 0]
theorem agr_le (a b : List UInt8) : agr a b ≤ a.length ∧ agr a b ≤ b.length := by
  induction a generalizing b with
  | nil => simp [agr]
  | cons c x ih =>
    cases b with
    | nil => simp [agr]
    | cons d y =>
      rw [agr]
      split
      · have := ih y; simp only [List.length_cons]; omega
      · simp
theorem btw_cons (a b : UInt8) (x y : List UInt8) : btw (a :: x) (b :: y) = if a = b then a :: btw x y else [a + 1] := by
  unfold btw
  rw [agr]
  split
  · rename_i e; simp
  · simp
theorem byte_up (a b : UInt8) (h : a < b) : (a + 1).toNat = a.toNat + 1 := by
  have h1 : a.toNat < b.toNat := UInt8.lt_iff_toNat_lt.1 h
  have h2 := b.toNat_lt
  rw [UInt8.toNat_add]
  have : (1 : UInt8).toNat = 1 := rfl
  omega
theorem btw_spec (a b : List UInt8) (h : bl a b = true) : bl a (btw a b) = true ∧ bl b (btw a b) = false := by
  induction a generalizing b with
  | nil =>
    cases b with
    | nil => cases h
    | cons d y =>
      refine ⟨rfl, ?_⟩
      show bl (d :: y) [0] = false
      rw [bl_cons, decide_eq_false UInt8.not_lt_zero, bl_to_nil, Bool.and_false]; rfl
  | cons c x ih =>
    cases b with
    | nil => rw [bl_to_nil] at h; cases h
    | cons d y =>
      rw [btw_cons]
      by_cases e : c = d
      · subst e
        rw [if_pos rfl, bl_same, bl_same]
        rw [bl_same] at h
        exact ih y h
      · rw [if_neg e]
        rw [bl_cons, beq_eq_false_iff_ne.2 e, Bool.false_and, Bool.or_false, decide_eq_true_eq] at h
        have hu := byte_up c d h
        have h1 : c.toNat < d.toNat := UInt8.lt_iff_toNat_lt.1 h
        rw [bl_cons, bl_cons, bl_to_nil, bl_to_nil, Bool.and_false, Bool.and_false, Bool.or_false, Bool.or_false]
        refine ⟨decide_eq_true (UInt8.lt_iff_toNat_lt.2 (by omega)), decide_eq_false (fun h => ?_)⟩
        have := UInt8.lt_iff_toNat_lt.1 h
        omega
theorem btw_length (a b : List UInt8) : (btw a b).length = agr a b + 1 := by
  have := agr_le a b
  unfold btw
  rw [List.length_append, List.length_take, List.length_singleton]; omega
/-- A text that agrees with what Between tells up to a place and is cut there, or is less there, is not above a. -/
theorem btw_cut (a b : List UInt8) (at' : Nat) (h : at' < (btw a b).length) : bl a ((btw a b).take at') = false := by
  have hl := agr_le a b
  rw [btw_length] at h
  have e : (btw a b).take at' = a.take at' := by
    unfold btw
    rw [List.take_append_of_le_length (by rw [List.length_take]; omega), List.take_take]
    congr 1
    omega
  rw [e]
  conv => lhs; arg 1; rw [← List.take_append_drop at' a, ]
  have e2 : bl (a.take at' ++ a.drop at') (a.take at' ++ []) = bl (a.drop at') [] := bl_app _ _ _
  rw [List.append_nil] at e2
  rw [e2, bl_to_nil]
theorem btw_less (a b : List UInt8) (at' : Nat) (c : UInt8) (l : List UInt8) (h : at' < (btw a b).length) (hc : c < (btw a b).getD at' 0) (hlen : ((btw a b).take at' ++ c :: l).length = (btw a b).length) :
    bl a ((btw a b).take at' ++ c :: l) = false := by
  have hl := agr_le a b
  rw [btw_length] at h
  have e : (btw a b).take at' = a.take at' := by
    unfold btw
    rw [List.take_append_of_le_length (by rw [List.length_take]; omega), List.take_take]
    congr 1
    omega
  rw [e] at hlen ⊢
  have tl : (a.take at').length = at' := by rw [List.length_take]; omega
  rw [List.length_append, List.length_cons, tl, btw_length] at hlen
  have hat : at' < a.length := by
    rcases Nat.lt_or_ge at' a.length with g | g
    · exact g
    · have : at' = agr a b := by omega
      subst this
      exfalso
      have : (btw a b).getD (agr a b) 0 = 0 := by
        unfold btw
        rw [if_neg (by omega), List.getD_eq_getElem?_getD, List.getElem?_append_right (by rw [List.length_take]; omega), List.length_take]
        simp [Nat.min_eq_left hl.1]
      rw [this] at hc
      exact UInt8.not_lt_zero hc
  have ea : a = a.take at' ++ a.getD at' 0 :: a.drop (at' + 1) := by
    have : a.getD at' 0 = a[at'] := by simp [hat]
    rw [this, List.getElem_cons_drop, List.take_append_drop]
  conv => lhs; arg 1; rw [ea]
  rw [bl_app, bl_cons]
  rcases Nat.lt_or_ge at' (agr a b) with g | g
  · have e3 : (btw a b).getD at' 0 = a.getD at' 0 := by
      unfold btw
      rw [List.getD_eq_getElem?_getD, List.getElem?_append_left (by rw [List.length_take]; omega), List.getElem?_take_of_lt g, ← List.getD_eq_getElem?_getD]
    rw [e3] at hc
    have hc' := UInt8.lt_iff_toNat_lt.1 hc
    rw [decide_eq_false (fun h => by have := UInt8.lt_iff_toNat_lt.1 h; omega), beq_eq_false_iff_ne.2 (fun h => by rw [h] at hc'; omega)]; rfl
  · have e4 : at' = agr a b := by omega
    obtain rfl : l = [] := by
      have : l.length = 0 := by omega
      exact List.eq_nil_of_length_eq_zero this
    have e3 : (btw a b).getD at' 0 = a.getD at' 0 + 1 := by
      rw [e4]
      unfold btw
      rw [if_pos (by omega), List.getD_eq_getElem?_getD, List.getElem?_append_right (by rw [List.length_take]; omega), List.length_take]
      simp [Nat.min_eq_left hl.1]
    rw [e3] at hc
    have hc' := UInt8.lt_iff_toNat_lt.1 hc
    rw [UInt8.toNat_add] at hc'
    have : (1 : UInt8).toNat = 1 := rfl
    rw [bl_to_nil, Bool.and_false, Bool.or_false]
    refine decide_eq_false fun h => ?_
    have := UInt8.lt_iff_toNat_lt.1 h
    omega
end Go.Proofs.YtanpneahembhbaaGreatDoor.K
