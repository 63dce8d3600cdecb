/-
  What Print tells, without the program: digits and a suffix; the shortest.
-/
import Derived.Test.YtjegjpdeclgegaaDoorPrint
namespace Go.Proofs.YtjegjpdeclgegaaDoor
open Go.RowKit Go.Lib
/-- The number of digits, read from the left. -/
def numOf (l : List UInt8) : Nat := l.foldl (fun n c => n * 10 + (c.toNat - 48)) 0
theorem numOf_snoc (l : List UInt8) (c : UInt8) : numOf (l ++ [c]) = numOf l * 10 + (c.toNat - 48) := by simp [numOf]
theorem digit_of {d : Nat} (h : d < 10) : (UInt8.ofNat (48 + d)).toNat = 48 + d := by
  rw [UInt8.toNat_ofNat']
  omega
theorem numOf_dec (u : Nat) : numOf (decDigits u) = u := by
  induction u using Nat.strongRecOn with
  | _ u ih =>
    rw [decDigits]
    split
    · rename_i h
      rw [show [UInt8.ofNat (48 + u)] = [] ++ [UInt8.ofNat (48 + u)] from rfl, numOf_snoc, digit_of h]
      show 0 * 10 + _ = u
      omega
    · rename_i h
      rw [numOf_snoc, ih (u / 10) (by omega), digit_of (Nat.mod_lt _ (by decide))]
      omega
theorem dec_digits (u : Nat) : ∀ c ∈ decDigits u, 48 ≤ c.toNat ∧ c.toNat ≤ 57 := by
  induction u using Nat.strongRecOn with
  | _ u ih =>
    rw [decDigits]
    split
    · rename_i h
      intro c hc
      rw [List.mem_singleton] at hc
      rw [hc, digit_of h]
      omega
    · rename_i h
      intro c hc
      rw [List.mem_append, List.mem_singleton] at hc
      rcases hc with hc | hc
      · exact ih (u / 10) (by omega) c hc
      · rw [hc, digit_of (Nat.mod_lt _ (by decide))]
        omega
theorem dec_ne (u : Nat) : decDigits u ≠ [] := by
  rw [decDigits]
  split <;> simp
theorem digs_has (c : UInt8) (h : 48 ≤ c.toNat ∧ c.toNat ≤ 57) : digs.data.toList.contains c = true := by
  have : c = UInt8.ofNat c.toNat := by simp
  rw [this]
  obtain ⟨n, hn⟩ : ∃ n, n = c.toNat := ⟨_, rfl⟩
  rw [← hn] at h ⊢
  have : n = 48 ∨ n = 49 ∨ n = 50 ∨ n = 51 ∨ n = 52 ∨ n = 53 ∨ n = 54 ∨ n = 55 ∨ n = 56 ∨ n = 57 := by omega
  rcases this with rfl | rfl | rfl | rfl | rfl | rfl | rfl | rfl | rfl | rfl <;> rfl
theorem dropWhile_all {p : UInt8 → Bool} : ∀ (a b : List UInt8), (∀ c ∈ a, p c = true) → (∀ c, b.head? = some c → p c = false) → (a ++ b).dropWhile p = b
  | [], [], _, _ => rfl
  | [], c :: b, _, h => by rw [List.nil_append, List.dropWhile_cons, h c rfl]; rfl
  | c :: a, b, h, hb => by rw [List.cons_append, List.dropWhile_cons, h c (by simp), if_pos rfl]; exact dropWhile_all a b (fun x hx => h x (by simp [hx])) hb
theorem suf_head : ∀ k : Nat, k < 12 → ∀ c, (sufT k).data.toList.head? = some c → digs.data.toList.contains c = false
  | 0, _, _, e => by cases e; rfl
  | 1, _, _, e => by cases e
  | 2, _, _, e => by cases e; rfl
  | 3, _, _, e => by cases e; rfl
  | 4, _, _, e => by cases e; rfl
  | 5, _, _, e => by cases e; rfl
  | 6, _, _, e => by cases e; rfl
  | 7, _, _, e => by cases e; rfl
  | 8, _, _, e => by cases e; rfl
  | 9, _, _, e => by cases e; rfl
  | 10, _, _, e => by cases e; rfl
  | 11, _, _, e => by cases e; rfl
theorem text_data (m i : Nat) : (dig m ++ sufT i).data.toList = decDigits m ++ (sufT i).data.toList := by simp [dig]
theorem text_size (m i : Nat) : (dig m ++ sufT i).size = (decDigits m).length + (sufT i).size := by
  have h := congrArg List.length (text_data m i)
  rw [List.length_append] at h
  have e1 : (dig m ++ sufT i).data.toList.length = (dig m ++ sufT i).size := by simp
  have e2 : (sufT i).data.toList.length = (sufT i).size := by simp
  omega
theorem text_trim (m i : Nat) (hi : i < 12) : trimLeftS (dig m ++ sufT i).data.toList digs.data.toList = (sufT i).data.toList := by
  rw [text_data]
  exact dropWhile_all _ _ (fun c hc => digs_has c (dec_digits m c hc)) (suf_head i hi)
theorem text_cut (m i : Nat) : (dig m ++ sufT i).extract 0 ((dig m ++ sufT i).size - (sufT i).size) = dig m := by
  have e : (dig m ++ sufT i).size - (sufT i).size = (decDigits m).length := by rw [text_size]; omega
  rw [e]
  have h : ((dig m ++ sufT i).extract 0 (decDigits m).length).data.toList = (dig m).data.toList := by
    rw [extract_from_zero, text_data, List.take_left]
    simp [dig]
  have inj : ∀ a b : ByteArray, a.data.toList = b.data.toList → a = b := fun a b hab => by
    apply ByteArray.ext
    exact Array.toList_inj.1 hab
  exact inj _ _ h
theorem suf_dot : ∀ k : Nat, k < 12 → hasPrefix (sufT k).data.toList [46] = false ∧ trimPrefix (sufT k).data.toList [46] = (sufT k).data.toList
  | 0, _ => ⟨rfl, rfl⟩
  | 1, _ => ⟨rfl, rfl⟩
  | 2, _ => ⟨rfl, rfl⟩
  | 3, _ => ⟨rfl, rfl⟩
  | 4, _ => ⟨rfl, rfl⟩
  | 5, _ => ⟨rfl, rfl⟩
  | 6, _ => ⟨rfl, rfl⟩
  | 7, _ => ⟨rfl, rfl⟩
  | 8, _ => ⟨rfl, rfl⟩
  | 9, _ => ⟨rfl, rfl⟩
  | 10, _ => ⟨rfl, rfl⟩
  | 11, _ => ⟨rfl, rfl⟩
theorem suf_apart : ∀ k : Nat, k < 12 → ∀ i : Nat, i < 12 → k ≠ i → ((sufT k).data.toList == (sufT i).data.toList) = false := by decide
/-- It is one of the texts, and none is shorter. -/
theorem best_spec (v : Nat) : ∀ k : Nat, k ≤ 12 → 1 ≤ k → (∃ i, i < k ∧ v % sufN i = 0 ∧ best v k = dig (v / sufN i) ++ sufT i) ∧ (∀ j, j < k → v % sufN j = 0 → (best v k).size ≤ (dig (v / sufN j) ++ sufT j).size)
  | 0, _, h => by omega
  | 1, _, _ => by
    have e : best v 1 = dig (v / sufN 0) ++ sufT 0 := by
      rw [best, if_pos (show v % sufN 0 = 0 from Nat.mod_one v), if_pos (Or.inl (show (best v 0).size = 0 from rfl))]
    exact ⟨⟨0, by decide, Nat.mod_one v, e⟩, fun j hj _ => (by
      have hj0 : j = 0 := by omega
      subst hj0
      rw [e]
      exact Nat.le_refl _)⟩
  | k + 2, hk, _ => by
    obtain ⟨⟨i, hi, hm, he⟩, hmin⟩ := best_spec v (k + 1) (by omega) (by omega)
    have hpos : ¬ (best v (k + 1)).size = 0 := by
      rw [he, text_size]
      have := List.length_pos_iff.2 (dec_ne (v / sufN i))
      omega
    rw [best]
    by_cases hd : v % sufN (k + 1) = 0
    · rw [if_pos hd]
      by_cases hs : (dig (v / sufN (k + 1)) ++ sufT (k + 1)).size < (best v (k + 1)).size
      · rw [if_pos (Or.inr hs)]
        refine ⟨⟨k + 1, by omega, hd, rfl⟩, fun j hj hjm => ?_⟩
        by_cases e : j = k + 1
        · subst e; exact Nat.le_refl _
        · have := hmin j (by omega) hjm
          omega
      · rw [if_neg (by rintro (h | h); exact hpos h; exact hs h)]
        refine ⟨⟨i, by omega, hm, he⟩, fun j hj hjm => ?_⟩
        by_cases e : j = k + 1
        · subst e; omega
        · exact hmin j (by omega) hjm
    · rw [if_neg hd]
      refine ⟨⟨i, by omega, hm, he⟩, fun j hj hjm => ?_⟩
      by_cases e : j = k + 1
      · subst e; exact absurd hjm hd
      · exact hmin j (by omega) hjm
end Go.Proofs.YtjegjpdeclgegaaDoor
