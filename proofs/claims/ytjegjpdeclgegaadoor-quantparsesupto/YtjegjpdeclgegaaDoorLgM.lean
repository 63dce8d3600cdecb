/-
  Whole numbers as decimal digits, lowest first (pure).
-/
import Derived.Test.YtjegjpdeclgegaaDoorScG
namespace Go.Proofs.YtjegjpdeclgegaaDoor
namespace Lg
/-- The digits of a number, lowest first, no highest 0. -/
def dg (n : Nat) : List Nat := if h : n = 0 then [] else (n % 10) :: dg (n / 10)
termination_by n
decreasing_by omega
/-- What digits mean. -/
def vl : List Nat → Nat
  | [] => 0
  | x :: r => x + 10 * vl r
def Dgs (d : List Nat) : Prop := ∀ x ∈ d, x < 10
theorem dg_zero : dg 0 = [] := by rw [dg]; simp
theorem dg_pos {n : Nat} (h : 0 < n) : dg n = (n % 10) :: dg (n / 10) := by rw [dg]; simp; omega
theorem vl_dg (n : Nat) : vl (dg n) = n := by
  induction n using Nat.strongRecOn with
  | ind n ih =>
    rcases Nat.eq_zero_or_pos n with h | h
    · subst h; rw [dg_zero]; rfl
    · rw [dg_pos h, vl, ih (n / 10) (by omega)]; omega
theorem dgs_dg (n : Nat) : Dgs (dg n) := by
  induction n using Nat.strongRecOn with
  | ind n ih =>
    rcases Nat.eq_zero_or_pos n with h | h
    · subst h; rw [dg_zero]; intro x hx; cases hx
    · rw [dg_pos h]
      intro x hx
      rcases List.mem_cons.1 hx with e | e
      · subst e; omega
      · exact ih (n / 10) (by omega) x e
theorem vl_app (d e : List Nat) : vl (d ++ e) = vl d + 10 ^ d.length * vl e := by
  induction d with
  | nil => simp [vl]
  | cons x r ih => rw [List.cons_append, vl, vl, ih, List.length_cons, Nat.pow_succ]; rw [Nat.mul_add, Nat.add_assoc, ← Nat.mul_assoc, Nat.mul_comm 10 (10 ^ r.length)]
theorem vl_lt {d : List Nat} (h : Dgs d) : vl d < 10 ^ d.length := by
  induction d with
  | nil => simp [vl]
  | cons x r ih =>
    have h1 := h x (by simp)
    have h2 := ih (fun y hy => h y (by simp [hy]))
    rw [vl, List.length_cons, Nat.pow_succ]; omega
theorem dg_len_lt {n k : Nat} (h : n < 10 ^ k) : (dg n).length ≤ k := by
  induction k generalizing n with
  | zero => have : n = 0 := by simpa using h
            subst this; rw [dg_zero]; simp
  | succ k ih =>
    rcases Nat.eq_zero_or_pos n with h0 | h0
    · subst h0; rw [dg_zero]; simp
    · rw [dg_pos h0, List.length_cons]
      have := @ih (n / 10) (by rw [Nat.pow_succ] at h; omega)
      omega
theorem dg_len_ge {n k : Nat} (h : 10 ^ k ≤ n) : k < (dg n).length := by
  have h1 := vl_lt (dgs_dg n)
  rw [vl_dg] at h1
  rcases Nat.lt_or_ge k (dg n).length with q | q
  · exact q
  · have := Nat.pow_le_pow_right (show 0 < 10 by decide) q
    omega
/-- Digits with no highest 0 are the number's. -/
theorem dg_vl {d : List Nat} (h : Dgs d) (hl : ∀ x, d.getLast? = some x → x ≠ 0) : dg (vl d) = d := by
  induction d with
  | nil => rw [vl, dg_zero]
  | cons x r ih =>
    have h1 := h x (by simp)
    have h2 : Dgs r := fun y hy => h y (by simp [hy])
    cases r with
    | nil =>
      have hx : x ≠ 0 := hl x rfl
      rw [vl, vl, dg_pos (by omega)]
      have e1 : (x + 10 * 0) % 10 = x := by omega
      have e2 : (x + 10 * 0) / 10 = 0 := by omega
      rw [e1, e2, dg_zero]
    | cons y s =>
      have h3 := ih h2 (fun z hz => hl z (by rw [List.getLast?_cons_cons]; exact hz))
      have hp : 0 < vl (y :: s) := by
        rcases Nat.eq_zero_or_pos (vl (y :: s)) with q | q
        · rw [q, dg_zero] at h3; cases h3
        · exact q
      rw [vl, dg_pos (by omega)]
      have e1 : (x + 10 * vl (y :: s)) % 10 = x := by omega
      have e2 : (x + 10 * vl (y :: s)) / 10 = vl (y :: s) := by omega
      rw [e1, e2, h3]
theorem dg_len_eq {n m : Nat} (h : (dg n).length < (dg m).length) : n < m := by
  have h1 := vl_lt (dgs_dg n)
  rw [vl_dg] at h1
  rcases Nat.lt_or_ge n m with q | q
  · exact q
  · have h2 : (dg m).length ≤ (dg n).length := dg_len_lt (Nat.lt_of_le_of_lt q h1)
    omega
/-- Zeros at the end mean nothing. -/
theorem vl_zeros (d : List Nat) (k : Nat) (h : ∀ j, k ≤ j → d.getD j 0 = 0) : vl (d.take k) = vl d := by
  induction d generalizing k with
  | nil => simp [vl]
  | cons x r ih =>
    cases k with
    | zero =>
      have h0 : x = 0 := by simpa using h 0 (Nat.le_refl _)
      have h1 := ih 0 (fun j _ => by simpa using h (j + 1) (by omega))
      simp only [List.take_zero, vl] at h1 ⊢
      omega
    | succ k =>
      rw [List.take_succ_cons, vl, vl, ih k (fun j hj => by simpa using h (j + 1) (by omega))]
theorem vl_set (d : List Nat) (i y : Nat) (hi : i < d.length) : vl (d.set i y) + 10 ^ i * d.getD i 0 = vl d + 10 ^ i * y := by
  induction d generalizing i with
  | nil => simp at hi
  | cons x r ih =>
    cases i with
    | zero => simp [vl]; omega
    | succ i =>
      rw [List.set_cons_succ, vl, vl, List.getD_cons_succ, Nat.pow_succ]
      have := ih i (by simpa using hi)
      have e1 : 10 ^ i * 10 * r.getD i 0 = 10 * (10 ^ i * r.getD i 0) := by rw [Nat.mul_comm (10 ^ i) 10, Nat.mul_assoc]
      have e2 : 10 ^ i * 10 * y = 10 * (10 ^ i * y) := by rw [Nat.mul_comm (10 ^ i) 10, Nat.mul_assoc]
      rw [e1, e2]; omega
theorem vl_snoc (d : List Nat) (x : Nat) : vl (d ++ [x]) = vl d + 10 ^ d.length * x := by rw [vl_app]; simp [vl]
theorem vl_take_succ (d : List Nat) (k : Nat) (h : k < d.length) : vl (d.take (k + 1)) = vl (d.take k) + 10 ^ k * d.getD k 0 := by
  have e : d.take (k + 1) = d.take k ++ [d.getD k 0] := by rw [List.take_add_one, List.getD_eq_getElem?_getD, List.getElem?_eq_getElem h]; rfl
  rw [e, vl_snoc, List.length_take, Nat.min_eq_left (by omega)]
theorem vl_take_succ' (d : List Nat) (k : Nat) : vl (d.take (k + 1)) = vl (d.take k) + 10 ^ k * d.getD k 0 := by
  rcases Nat.lt_or_ge k d.length with h | h
  · exact vl_take_succ d k h
  · rw [List.take_of_length_le (by omega), List.take_of_length_le h, List.getD_eq_getElem?_getD, List.getElem?_eq_none h]; simp
theorem vl_drop (d : List Nat) (k : Nat) (h : k < d.length) : vl (d.drop k) = d.getD k 0 + 10 * vl (d.drop (k + 1)) := by
  rw [List.drop_eq_getElem_cons h, vl, List.getD_eq_getElem?_getD, List.getElem?_eq_getElem h]; rfl
theorem vl_split (d : List Nat) (k : Nat) (h : k ≤ d.length) : vl d = vl (d.take k) + 10 ^ k * vl (d.drop k) := by
  have e : d = d.take k ++ d.drop k := (List.take_append_drop k d).symm
  have := vl_app (d.take k) (d.drop k)
  rw [← e, List.length_take, Nat.min_eq_left h] at this; exact this
theorem getD_lt {d : List Nat} (h : Dgs d) (k : Nat) : d.getD k 0 < 10 := by
  rcases Nat.lt_or_ge k d.length with q | q
  · rw [List.getD_eq_getElem?_getD, List.getElem?_eq_getElem q]; exact h _ (List.getElem_mem q)
  · rw [List.getD_eq_getElem?_getD, List.getElem?_eq_none q]; decide
theorem getD_set {d : List Nat} (i j y : Nat) (hi : i < d.length) : (d.set i y).getD j 0 = if i = j then y else d.getD j 0 := by
  simp only [List.getD_eq_getElem?_getD, List.getElem?_set]
  by_cases h : i = j
  · subst h; simp [hi]
  · simp [h]
theorem dgs_set {d : List Nat} (h : Dgs d) (i y : Nat) (hy : y < 10) : Dgs (d.set i y) := fun x hx => by
  rcases List.mem_or_eq_of_mem_set hx with q | q
  · exact h x q
  · subst q; exact hy
theorem dgs_app {d e : List Nat} (h : Dgs d) (h' : Dgs e) : Dgs (d ++ e) := fun x hx => (List.mem_append.1 hx).elim (h x) (h' x)
theorem dgs_one {x : Nat} (h : x < 10) : Dgs [x] := fun y hy => by simp at hy; subst hy; exact h
theorem dgs_take {d : List Nat} (h : Dgs d) (k : Nat) : Dgs (d.take k) := fun x hx => h x (List.mem_of_mem_take hx)
theorem dgs_drop {d : List Nat} (h : Dgs d) (k : Nat) : Dgs (d.drop k) := fun x hx => h x (List.mem_of_mem_drop hx)
/-- Cut: behind the highest digit that is not 0 all are 0. -/
theorem cut_dg {d : List Nat} (h : Dgs d) (n : Nat) (hn : n ≤ d.length) (hz : ∀ j, n ≤ j → d.getD j 0 = 0) (hl : n = 0 ∨ d.getD (n - 1) 0 ≠ 0) : d.take n = dg (vl d) := by
  rw [← vl_zeros d n hz]
  refine (dg_vl (dgs_take h n) fun x hx => ?_).symm
  rcases hl with e | e
  · subst e; simp at hx
  · rw [List.getLast?_eq_getElem?, List.length_take, Nat.min_eq_left hn] at hx
    rcases Nat.eq_zero_or_pos n with q | q
    · subst q; simp at hx
    · rw [List.getElem?_take_of_lt (by omega)] at hx
      rw [List.getD_eq_getElem?_getD, hx] at e
      exact e
/-- Comparing from the highest digit. -/
theorem less_at {d e : List Nat} (hd : Dgs d) (hlen : d.length = e.length) (i : Nat) (hi : i < d.length) (hs : d.drop (i + 1) = e.drop (i + 1)) (h : d.getD i 0 < e.getD i 0) : vl d < vl e := by
  have e1 := vl_split d i (by omega)
  have e2 := vl_split e i (by omega)
  have h1 := vl_drop d i hi
  have h2 := vl_drop e i (by omega)
  have h3 : vl (d.take i) < 10 ^ i := by have := vl_lt (dgs_take hd i); rw [List.length_take, Nat.min_eq_left (by omega)] at this; exact this
  rw [hs] at h1
  have h4 : vl (d.drop i) + 1 ≤ vl (e.drop i) := by omega
  have h5 := Nat.mul_le_mul_left (10 ^ i) h4
  rw [Nat.mul_add] at h5
  omega
theorem drop_eq_of {d e : List Nat} (hlen : d.length = e.length) (i : Nat) (hi : i < d.length) (hs : d.drop (i + 1) = e.drop (i + 1)) (h : d.getD i 0 = e.getD i 0) : d.drop i = e.drop i := by
  have hi' : i < e.length := by omega
  rw [List.drop_eq_getElem_cons hi, List.drop_eq_getElem_cons hi', hs]
  congr 1
  rw [List.getD_eq_getElem?_getD, List.getElem?_eq_getElem hi, List.getD_eq_getElem?_getD, List.getElem?_eq_getElem hi'] at h
  exact h
end Lg
end Go.Proofs.YtjegjpdeclgegaaDoor
