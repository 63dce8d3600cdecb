/-
  Print: the shortest text, as the document chooses it (pure).
-/
import Derived.Test.YtjegjpdeclgegaaDoorBackM
namespace Go.Proofs.YtjegjpdeclgegaaDoor
open Go.RowKit Go.Lib
namespace Lg
/-- The last text of a decimal, of a binary suffix that divides, ahead of i. -/
def fs (v : Nat) : Nat → ByteArray
  | 0 => ⟨#[]⟩
  | i + 1 => if 1 ≤ i ∧ i < 7 ∧ v % sufN i = 0 then dig (v / sufN i) ++ sufT i else fs v i
def sd (v : Nat) : Nat → ByteArray
  | 0 => ⟨#[]⟩
  | i + 1 => if 7 ≤ i ∧ v % sufN i = 0 then dig (v / sufN i) ++ sufT i else sd v i
theorem nd_ten (x : Nat) (h : 0 < x) : nDigits (10 * x) = nDigits x + 1 := by
  rw [nDigits_big (by omega), Nat.mul_div_cancel_left _ (by decide)]
theorem nd_mono : ∀ (b a : Nat), a ≤ b → nDigits a ≤ nDigits b := by
  intro b
  induction b using Nat.strongRecOn with
  | ind b ih =>
    intro a hab
    by_cases hb : b < 10
    · rw [nDigits_small hb, nDigits_small (by omega)]; exact Nat.le_refl _
    · rw [nDigits_big hb]
      by_cases ha : a < 10
      · rw [nDigits_small ha]; omega
      · rw [nDigits_big ha]
        have := ih (b / 10) (by omega) (a / 10) (by omega)
        omega
theorem nd_thou (x : Nat) (h : 0 < x) : nDigits (1000 * x) = nDigits x + 3 := by
  have e : 1000 * x = 10 * (10 * (10 * x)) := by omega
  rw [e, nd_ten _ (by omega), nd_ten _ (by omega), nd_ten _ h]
theorem nd_bin (x : Nat) (h : 0 < x) : nDigits x + 3 ≤ nDigits (1024 * x) := by
  rw [← nd_thou x h]; exact nd_mono _ _ (by omega)
theorem tsize (m i : Nat) : (dig m ++ sufT i).size = nDigits m + (sufT i).size := by rw [text_size, decDigits_length]
theorem suf_pos (j : Nat) : 0 < sufN j := by unfold sufN; split <;> decide
/-- A greater suffix of the same base. -/
theorem dec_up : ∀ k : Nat, k < 6 → 1 ≤ k → sufN (k + 1) = sufN k * 1000 ∧ (sufT (k + 1)).size ≤ 1 := by decide
theorem bin_up : ∀ k : Nat, k < 11 → 7 ≤ k → sufN (k + 1) = sufN k * 1024 ∧ (sufT (k + 1)).size = (sufT k).size := by decide
theorem up_div {v a m : Nat} (hv : 0 < v) (ha : 0 < a) (hm : 0 < m) (h : v % (a * m) = 0) : v % a = 0 ∧ v / a = m * (v / (a * m)) ∧ 0 < v / (a * m) := by
  have hd : a * m ∣ v := Nat.dvd_of_mod_eq_zero h
  obtain ⟨q, rfl⟩ := hd
  have hq : 0 < q := by rcases Nat.eq_zero_or_pos q with z | z; · subst z; simp at hv
                        · exact z
  have e1 : a * m * q / (a * m) = q := Nat.mul_div_cancel_left _ (Nat.mul_pos ha hm)
  have e2 : a * m * q / a = m * q := by rw [Nat.mul_assoc, Nat.mul_div_cancel_left _ ha]
  exact ⟨by rw [Nat.mul_assoc]; exact Nat.mul_mod_right _ _, by rw [e1, e2], by rw [e1]; exact hq⟩
theorem dec_less {v k : Nat} (hv : 0 < v) (h1 : 1 ≤ k) (h2 : k < 6) (h : v % sufN (k + 1) = 0) : v % sufN k = 0 ∧ (dig (v / sufN (k + 1)) ++ sufT (k + 1)).size < (dig (v / sufN k) ++ sufT k).size := by
  obtain ⟨e1, e2⟩ := dec_up k h2 h1
  rw [e1] at h ⊢
  obtain ⟨q1, q2, q3⟩ := up_div hv (suf_pos k) (by decide) h
  refine ⟨q1, ?_⟩
  rw [tsize, tsize, q2, nd_thou _ q3]
  omega
theorem bin_less {v k : Nat} (hv : 0 < v) (h1 : 7 ≤ k) (h2 : k < 11) (h : v % sufN (k + 1) = 0) : v % sufN k = 0 ∧ (dig (v / sufN (k + 1)) ++ sufT (k + 1)).size < (dig (v / sufN k) ++ sufT k).size := by
  obtain ⟨e1, e2⟩ := bin_up k h2 h1
  rw [e1] at h ⊢
  obtain ⟨q1, q2, q3⟩ := up_div hv (suf_pos k) (by decide) h
  refine ⟨q1, ?_⟩
  have := nd_bin _ q3
  rw [tsize, tsize, q2, e2]
  omega
theorem tpos (m i : Nat) : 0 < (dig m ++ sufT i).size := by rw [tsize]; have := nDigits_pos m; omega
/-- Among the decimal ones. -/
theorem best_dec {v : Nat} (hv : 0 < v) (hm : v % 1000 = 0) : ∀ k : Nat, 2 ≤ k → k ≤ 7 → best v k = fs v k ∧ 0 < (fs v k).size
  | 0, h, _ => by omega
  | 1, h, _ => by omega
  | 2, _, _ => by
    have hs1 : sufN 1 = 1000 := rfl
    have e1 : best v 1 = dig (v / sufN 0) ++ sufT 0 := by
      rw [best, if_pos (show v % sufN 0 = 0 from Nat.mod_one v), if_pos (Or.inl (show (best v 0).size = 0 from rfl))]
    have hlt : (dig (v / sufN 1) ++ sufT 1).size < (best v 1).size := by
      rw [e1, tsize, tsize]
      have : nDigits (v / sufN 1) ≤ nDigits (v / sufN 0) := nd_mono _ _ (by show v / 1000 ≤ v / 1; rw [Nat.div_one]; exact Nat.div_le_self _ _)
      show nDigits (v / sufN 1) + 0 < nDigits (v / sufN 0) + 1
      omega
    have e2 : best v 2 = dig (v / sufN 1) ++ sufT 1 := by
      rw [best, if_pos (by rw [hs1]; exact hm), if_pos (Or.inr hlt)]
    have e3 : fs v 2 = dig (v / sufN 1) ++ sufT 1 := by
      rw [fs, if_pos ⟨Nat.le_refl _, by decide, by rw [hs1]; exact hm⟩]
    exact ⟨e2.trans e3.symm, by rw [e3]; exact tpos _ _⟩
  | k + 3, _, h7 => by
    obtain ⟨ih, ip⟩ := best_dec hv hm (k + 2) (by omega) (by omega)
    by_cases hd : v % sufN (k + 2) = 0
    · obtain ⟨q1, q2⟩ := dec_less hv (k := k + 1) (by omega) (by omega) hd
      have e : fs v (k + 2) = dig (v / sufN (k + 1)) ++ sufT (k + 1) := by
        rw [fs, if_pos ⟨by omega, by omega, q1⟩]
      have e2 : best v (k + 3) = dig (v / sufN (k + 2)) ++ sufT (k + 2) := by
        rw [best, if_pos hd, if_pos (Or.inr (by rw [ih, e]; exact q2))]
      have e3 : fs v (k + 3) = dig (v / sufN (k + 2)) ++ sufT (k + 2) := by
        rw [fs, if_pos ⟨by omega, by omega, hd⟩]
      exact ⟨e2.trans e3.symm, by rw [e3]; exact tpos _ _⟩
    · have e2 : best v (k + 3) = best v (k + 2) := by rw [best, if_neg hd]
      have e3 : fs v (k + 3) = fs v (k + 2) := by rw [fs, if_neg (fun c => hd c.2.2)]
      exact ⟨by rw [e2, e3]; exact ih, by rw [e3]; exact ip⟩
def pick (v k : Nat) : ByteArray := if 0 < (sd v k).size ∧ (sd v k).size < (fs v k).size then sd v k else fs v k
theorem fs_stop (v k : Nat) (h : 7 ≤ k) : fs v (k + 1) = fs v k := by rw [fs, if_neg (by omega)]
theorem best_pick {v : Nat} (hv : 0 < v) (hm : v % 1000 = 0) : ∀ d : Nat, d ≤ 5 → best v (7 + d) = pick v (7 + d) ∧ 0 < (fs v (7 + d)).size ∧ (0 < (sd v (7 + d)).size → ∃ j, 7 ≤ j ∧ j < 7 + d ∧ v % sufN j = 0)
  | 0, _ => by
    obtain ⟨q1, q2⟩ := best_dec hv hm 7 (by decide) (by decide)
    have e : sd v 7 = ⟨#[]⟩ := by
      simp [sd]
    refine ⟨?_, q2, ?_⟩
    · show best v 7 = pick v 7
      unfold pick
      rw [e, if_neg (fun c => absurd c.1 (by decide))]; exact q1
    · show 0 < (sd v 7).size → _
      rw [e]; intro c; exact absurd c (by decide)
  | d + 1, h => by
    obtain ⟨i1, i2, i3⟩ := best_pick hv hm d (by omega)
    have ef : fs v (7 + (d + 1)) = fs v (7 + d) := fs_stop v (7 + d) (by omega)
    by_cases hd : v % sufN (7 + d) = 0
    · have es : sd v (7 + (d + 1)) = dig (v / sufN (7 + d)) ++ sufT (7 + d) := by
        show sd v (7 + d + 1) = _
        rw [sd, if_pos ⟨by omega, hd⟩]
      have tp := tpos (v / sufN (7 + d)) (7 + d)
      obtain ⟨X, hX⟩ : ∃ X, X = dig (v / sufN (7 + d)) ++ sufT (7 + d) := ⟨_, rfl⟩
      rw [← hX] at es tp
      have hless : 0 < (sd v (7 + d)).size → X.size < (sd v (7 + d)).size := by
        intro hp
        cases d with
        | zero =>
          obtain ⟨j, h1, h2, _⟩ := i3 hp
          omega
        | succ d =>
          obtain ⟨q1, q2⟩ := bin_less hv (k := 7 + d) (by omega) (by omega) hd
          have e : sd v (7 + (d + 1)) = dig (v / sufN (7 + d)) ++ sufT (7 + d) := by
            show sd v (7 + d + 1) = _
            rw [sd, if_pos ⟨by omega, q1⟩]
          rw [e, hX]; exact q2
      have bp : ¬ (best v (7 + d)).size = 0 := by
        rw [i1]
        unfold pick
        split
        · rename_i c; omega
        · omega
      have eb : best v (7 + (d + 1)) = if X.size < (best v (7 + d)).size then X else best v (7 + d) := by
        show best v (7 + d + 1) = _
        rw [best, if_pos hd, ← hX]
        by_cases c : X.size < (best v (7 + d)).size
        · rw [if_pos (Or.inr c), if_pos c]
        · rw [if_neg (fun q => q.elim bp c), if_neg c]
      refine ⟨?_, by rw [ef]; exact i2, fun _ => ⟨7 + d, by omega, by omega, hd⟩⟩
      rw [eb, i1]
      unfold pick
      rw [es, ef]
      by_cases c : 0 < (sd v (7 + d)).size ∧ (sd v (7 + d)).size < (fs v (7 + d)).size
      · have := hless c.1
        rw [if_pos c, if_pos this, if_pos ⟨tp, by omega⟩]
      · rw [if_neg c]
        by_cases c2 : X.size < (fs v (7 + d)).size
        · rw [if_pos c2, if_pos ⟨tp, c2⟩]
        · rw [if_neg c2, if_neg (fun q => c2 q.2)]
    · have es : sd v (7 + (d + 1)) = sd v (7 + d) := by
        show sd v (7 + d + 1) = _
        rw [sd, if_neg (fun c => hd c.2)]
      have eb : best v (7 + (d + 1)) = best v (7 + d) := by
        show best v (7 + d + 1) = _
        rw [best, if_neg hd]
      refine ⟨by rw [eb, i1]; unfold pick; rw [es, ef], by rw [ef]; exact i2, fun q => ?_⟩
      rw [es] at q
      obtain ⟨j, h1, h2, h3⟩ := i3 q
      exact ⟨j, h1, by omega, h3⟩
/-- Both choose alike. -/
theorem best_ref {v : Nat} (hv : 0 < v) (hm : v % 1000 = 0) : best v 12 = if 0 < (sd v 12).size ∧ (sd v 12).size < (fs v 12).size then sd v 12 else fs v 12 := (best_pick hv hm 5 (by decide)).1
theorem thou_dvd : ∀ k : Nat, k < 12 → 1 ≤ k → 1000 ∣ sufN k := by decide
/-- A value that has thousandths. -/
theorem best_milli {v : Nat} (hm : v % 1000 ≠ 0) : ∀ k : Nat, 1 ≤ k → k ≤ 12 → best v k = dig v ++ sufT 0
  | 0, h, _ => by omega
  | 1, _, _ => by
    rw [best, if_pos (show v % sufN 0 = 0 from Nat.mod_one v), if_pos (Or.inl (show (best v 0).size = 0 from rfl))]
    show dig (v / 1) ++ sufT 0 = _
    rw [Nat.div_one]
  | k + 2, _, h => by
    have ih := best_milli hm (k + 1) (by omega) (by omega)
    have hd : ¬ v % sufN (k + 1) = 0 := by
      intro c
      refine hm ?_
      have d : 1000 ∣ sufN (k + 1) := thou_dvd (k + 1) (by omega) (by omega)
      exact Nat.mod_eq_zero_of_dvd (Nat.dvd_trans d (Nat.dvd_of_mod_eq_zero c))
    rw [best, if_neg hd, ih]
theorem dig_zero : dig 0 = ⟨#[48]⟩ := by simp [dig, decDigits]
theorem best_zero : ∀ k : Nat, 2 ≤ k → k ≤ 12 → best 0 k = ⟨#[48]⟩
  | 0, h, _ => by omega
  | 1, h, _ => by omega
  | 2, _, _ => by
    have e1 : best 0 1 = dig 0 ++ sufT 0 := by
      rw [best, if_pos (Nat.zero_mod _), if_pos (Or.inl (show (best 0 0).size = 0 from rfl))]; rfl
    rw [best, if_pos (Nat.zero_mod _), e1, if_pos (Or.inr (by rw [Nat.zero_div, tsize, tsize]; show nDigits 0 + 0 < nDigits 0 + 1; omega)), Nat.zero_div, dig_zero]
    rfl
  | k + 3, _, h => by
    have ih := best_zero (k + 2) (by omega) (by omega)
    rw [best, if_pos (Nat.zero_mod _), ih, if_neg (by
      rintro (q | q)
      · exact absurd q (by decide)
      · rw [tsize] at q
        have := nDigits_pos (0 / sufN (k + 2))
        have e : (⟨#[48]⟩ : ByteArray).size = 1 := rfl
        omega)]
end Lg
end Go.Proofs.YtjegjpdeclgegaaDoor
