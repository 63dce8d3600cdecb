/-
  What a crash leaves of two blocks, by the statement's own reckoning; without the program.
-/
import Derived.Test.YtlnjclabnpenmaaWrL
namespace Go.Proofs.Ytlnjclabnpenmaa
open Go Go.RowKit
def overL (b : List UInt8) : List (List UInt8 × (Int × Int)) → List UInt8
  | [] => b
  | x :: l => overL (splice b 0 (x.1.take (keptN x.2).1)) l
theorem overL_snoc (x : List UInt8 × (Int × Int)) : ∀ (l : List (List UInt8 × (Int × Int))) (b : List UInt8), overL b (l ++ [x]) = splice (overL b l) 0 (x.1.take (keptN x.2).1)
  | [], b => rfl
  | y :: l, b => by
    rw [List.cons_append, overL, overL, overL_snoc x l]
theorem overL_length : ∀ (l : List (List UInt8 × (Int × Int))) (b : List UInt8), b.length = 512 → (overL b l).length = 512
  | [], b, h => h
  | y :: l, b, h => by
    rw [overL]
    refine overL_length l _ ?_
    rw [length_splice _ _ _ (by rw [List.length_take]; have := keptN_le y.2; omega), h]
theorem overL_next (l : List (List UInt8 × (Int × Int))) (b : List UInt8) (k : Nat) (x : List UInt8 × (Int × Int)) (h : l[k]? = some x) : overL b (l.take (k + 1)) = splice (overL b (l.take k)) 0 (x.1.take (keptN x.2).1) := by
  have hk : k < l.length := by
    rcases Nat.lt_or_ge k l.length with h' | h'
    · exact h'
    · rw [List.getElem?_eq_none h'] at h; simp at h
  have e : l[k] = x := by rw [List.getElem?_eq_getElem hk] at h; simpa using h
  rw [List.take_succ_eq_append_getElem hk, overL_snoc, e]
theorem splice_more (c x : List UInt8) (j : Nat) (h : j < x.length) (hc : x.length ≤ c.length) : (splice c 0 (x.take j)).set j (x.getD j 0) = splice c 0 (x.take (j + 1)) := by
  have l1 : (x.take j).length = j := by rw [List.length_take]; omega
  have l2 : (x.take (j + 1)).length = j + 1 := by rw [List.length_take]; omega
  apply List.ext_getElem?
  intro k
  rw [splice_at _ _ _ (by omega)]
  by_cases hk : k = j
  · subst hk
    rw [List.getElem?_set_self (by rw [length_splice _ _ _ (by omega)]; omega), if_pos (by omega), Nat.sub_zero, List.getElem?_take_of_lt (by omega), List.getD_eq_getElem?_getD, List.getElem?_eq_getElem h]
    rfl
  · rw [List.getElem?_set_ne (fun e => hk e.symm), splice_at _ _ _ (by omega)]
    by_cases h2 : k < j
    · rw [if_pos (by omega), if_pos (by omega), Nat.sub_zero, List.getElem?_take_of_lt h2, List.getElem?_take_of_lt (by omega)]
    · rw [if_neg (by omega), if_neg (by omega)]
/-- The cache holds the writes of both lists, each with its fate. -/
structure LvR (fs : List (Int × Int)) (m : List UInt8) (c : List Wt) (one two : List (List UInt8 × (Int × Int))) : Prop where
  len : (sets (fateAt fs) 0 c m).length = 32768
  r7 : raw (sets (fateAt fs) 0 c m) 7 = overL (raw m 7) one
  r8 : raw (sets (fateAt fs) 0 c m) 8 = overL (raw m 8) two
  lo : (sets (fateAt fs) 0 c m).take 3584 = m.take 3584
  hi : (sets (fateAt fs) 0 c m).drop 4608 = m.drop 4608
theorem lv_nil (fs : List (Int × Int)) (m : List UInt8) (h : m.length = 32768) : LvR fs m [] [] [] := ⟨h, rfl, rfl, rfl, rfl⟩
theorem lay_lo (m : List UInt8) (b : Nat) (p : List UInt8) (hp : p.length ≤ 512) (h : m.length = 32768) (hb : 7 ≤ b ∧ b ≤ 8) : (lay m b p).take 3584 = m.take 3584 := by
  apply List.ext_getElem?
  intro k
  by_cases hk : k < 3584
  · rw [List.getElem?_take_of_lt hk, List.getElem?_take_of_lt hk, lay, splice_at _ _ _ (by omega), if_neg (by omega)]
  · rw [List.getElem?_eq_none (by rw [List.length_take]; omega), List.getElem?_eq_none (by rw [List.length_take]; omega)]
theorem lay_hi (m : List UInt8) (b : Nat) (p : List UInt8) (hp : p.length ≤ 512) (h : m.length = 32768) (hb : 7 ≤ b ∧ b ≤ 8) : (lay m b p).drop 4608 = m.drop 4608 := by
  apply List.ext_getElem?
  intro k
  rw [List.getElem?_drop, List.getElem?_drop, lay, splice_at _ _ _ (by omega), if_neg (by omega)]
theorem LvR.one {fs : List (Int × Int)} {m : List UInt8} {c : List Wt} {one two : List (List UInt8 × (Int × Int))} (h : LvR fs m c one two) (p : List UInt8) (_hp : p.length = 512) : LvR fs m (c ++ [(7, p)]) (one ++ [(p, fateAt fs c.length)]) two := by
  have q : (p.take (keptN (fateAt fs c.length)).1).length ≤ 512 := by rw [List.length_take]; have := keptN_le (fateAt fs c.length); omega
  have e : sets (fateAt fs) 0 (c ++ [(7, p)]) m = lay (sets (fateAt fs) 0 c m) 7 (p.take (keptN (fateAt fs c.length)).1) := by rw [sets_snoc, Nat.zero_add]
  have hl := h.len
  refine ⟨?_, ?_, ?_, ?_, ?_⟩
  · rw [e, lay_length _ _ _ (by omega), hl]
  · rw [e, raw_lay_same _ _ _ q (by omega), overL_snoc, h.r7]
  · rw [e, raw_lay_other _ _ _ _ q (by omega) (by decide), h.r8]
  · rw [e, lay_lo _ _ _ q hl (by decide), h.lo]
  · rw [e, lay_hi _ _ _ q hl (by decide), h.hi]
theorem LvR.two {fs : List (Int × Int)} {m : List UInt8} {c : List Wt} {one two : List (List UInt8 × (Int × Int))} (h : LvR fs m c one two) (p : List UInt8) (_hp : p.length = 512) : LvR fs m (c ++ [(8, p)]) one (two ++ [(p, fateAt fs c.length)]) := by
  have q : (p.take (keptN (fateAt fs c.length)).1).length ≤ 512 := by rw [List.length_take]; have := keptN_le (fateAt fs c.length); omega
  have e : sets (fateAt fs) 0 (c ++ [(8, p)]) m = lay (sets (fateAt fs) 0 c m) 8 (p.take (keptN (fateAt fs c.length)).1) := by rw [sets_snoc, Nat.zero_add]
  have hl := h.len
  refine ⟨?_, ?_, ?_, ?_, ?_⟩
  · rw [e, lay_length _ _ _ (by omega), hl]
  · rw [e, raw_lay_other _ _ _ _ q (by omega) (by decide), h.r7]
  · rw [e, raw_lay_same _ _ _ q (by omega), overL_snoc, h.r8]
  · rw [e, lay_lo _ _ _ q hl (by decide), h.lo]
  · rw [e, lay_hi _ _ _ q hl (by decide), h.hi]
end Go.Proofs.Ytlnjclabnpenmaa
