/-
  WHAT IS TAKEN IS A FORM.
-/
import Derived.Test.YtmabmmmiljkeeaaLawBack
namespace Go.Proofs.Ytmabmmmiljkeeaa
open Go.RowKit

/-- What a take leaves. -/
def Fwd (k : Int) (l : List UInt8) (x : V) (s : RS) : Prop :=
  (s.e ≠ 0 ∧ s.l = l ∧ x = ⟨k, 0, 0, ⟨#[]⟩⟩) ∨ (s.e = 0 ∧ x.k = k ∧ x.fits ∧ x.ok ∧ l = x.enc ++ s.l ∧ (k = 4 ∨ x.s = ⟨#[]⟩) ∧ x.s.size ≤ 1048576)
theorem nosz : (⟨#[]⟩ : ByteArray).size = 0 := rfl
theorem num_good (l : List UInt8) (h : (num l 0).2.2 = 0) : l = form (num l 0).1 ++ l.drop (num l 0).2.1 ∧ (num l 0).2.1 = (form (num l 0).1).length ∧ (num l 0).1 < 18446744073709551616 := by
  obtain ⟨_, h1, h2, h3, _⟩ := form_num l 0 h
  exact ⟨h1, h2, by simpa using h3⟩
theorem fwd_uint (l : List UInt8) : Fwd 0 l (RS.take ⟨l, 0⟩ 0 1048576).1 (RS.take ⟨l, 0⟩ 0 1048576).2 := by
  have e : RS.take ⟨l, 0⟩ 0 1048576 = (⟨0, (num l 0).1, 0, ⟨#[]⟩⟩, ⟨l.drop (num l 0).2.1, (num l 0).2.2⟩) := by
    simp [RS.take, RS.uint]
  rw [e]
  by_cases h : (num l 0).2.2 = 0
  · obtain ⟨h1, _, h3⟩ := num_good l h
    exact Or.inr ⟨h, rfl, ⟨⟨by simp, by simp⟩, h3, ⟨by simp, by simp⟩, by simp [nosz]⟩, ⟨⟨by simp, by simp⟩, fun h => by simp at h⟩, h1, Or.inr rfl, by simp [nosz]⟩
  · have e2 := num_err l 0 h
    refine Or.inl ⟨h, ?_, ?_⟩
    · show l.drop (num l 0).2.1 = l
      rw [e2]; rfl
    · show (⟨0, (num l 0).1, 0, ⟨#[]⟩⟩ : V) = _
      rw [e2]
theorem fwd_int (l : List UInt8) : Fwd 1 l (RS.take ⟨l, 0⟩ 1 1048576).1 (RS.take ⟨l, 0⟩ 1 1048576).2 := by
  have e : RS.take ⟨l, 0⟩ 1 1048576 = (⟨1, 0, zag (num l 0).1, ⟨#[]⟩⟩, ⟨l.drop (num l 0).2.1, (num l 0).2.2⟩) := by
    simp [RS.take, RS.int, RS.uint]
  rw [e]
  by_cases h : (num l 0).2.2 = 0
  · obtain ⟨h1, _, h3⟩ := num_good l h
    refine Or.inr ⟨h, rfl, ⟨⟨by simp, by simp⟩, by simp, zag_bd _ h3, by simp [nosz]⟩, ⟨⟨by simp, by simp⟩, fun h => by simp at h⟩, ?_, Or.inr rfl, by simp [nosz]⟩
    show l = form (zig (zag (num l 0).1)) ++ _
    rw [zig_zag]; exact h1
  · have e2 := num_err l 0 h
    refine Or.inl ⟨h, ?_, ?_⟩
    · show l.drop (num l 0).2.1 = l
      rw [e2]; rfl
    · show (⟨1, 0, zag (num l 0).1, ⟨#[]⟩⟩ : V) = _
      rw [e2]; simp [zag]
theorem fwd_bool (l : List UInt8) : Fwd 2 l (RS.take ⟨l, 0⟩ 2 1048576).1 (RS.take ⟨l, 0⟩ 2 1048576).2 := by
  cases l with
  | nil => exact Or.inl ⟨by decide, rfl, rfl⟩
  | cons c t =>
    by_cases h : 1 < c.toNat
    · have e : RS.take ⟨c :: t, 0⟩ 2 1048576 = (⟨2, 0, 0, ⟨#[]⟩⟩, ⟨c :: t, 21⟩) := by simp [RS.take, RS.bool, h]
      rw [e]
      exact Or.inl ⟨by show (21 : Nat) ≠ 0; decide, rfl, rfl⟩
    · have hc : c = 0 ∨ c = 1 := by
        rcases Nat.lt_or_ge c.toNat 1 with q | q
        · exact Or.inl (UInt8.toNat_inj.1 (by show c.toNat = 0; omega))
        · exact Or.inr (UInt8.toNat_inj.1 (by show c.toNat = 1; omega))
      rcases hc with rfl | rfl
      · have e : RS.take ⟨0 :: t, 0⟩ 2 1048576 = (⟨2, 0, 0, ⟨#[]⟩⟩, ⟨t, 0⟩) := by simp [RS.take, RS.bool]
        rw [e]
        exact Or.inr ⟨rfl, rfl, ⟨⟨by simp, by simp⟩, by simp, ⟨by simp, by simp⟩, by simp [nosz]⟩, ⟨⟨by simp, by simp⟩, fun h => by simp at h⟩, rfl, Or.inr rfl, by simp [nosz]⟩
      · have e : RS.take ⟨1 :: t, 0⟩ 2 1048576 = (⟨2, 0, 1, ⟨#[]⟩⟩, ⟨t, 0⟩) := by simp [RS.take, RS.bool]
        rw [e]
        exact Or.inr ⟨rfl, rfl, ⟨⟨by simp, by simp⟩, by simp, ⟨by simp, by simp⟩, by simp [nosz]⟩, ⟨⟨by simp, by simp⟩, fun h => by simp at h⟩, rfl, Or.inr rfl, by simp [nosz]⟩
theorem fwd_byte (l : List UInt8) : Fwd 3 l (RS.take ⟨l, 0⟩ 3 1048576).1 (RS.take ⟨l, 0⟩ 3 1048576).2 := by
  cases l with
  | nil => exact Or.inl ⟨by decide, rfl, rfl⟩
  | cons c t =>
    have e : RS.take ⟨c :: t, 0⟩ 3 1048576 = (⟨3, c.toNat, 0, ⟨#[]⟩⟩, ⟨t, 0⟩) := by simp [RS.take, RS.byte]
    rw [e]
    have hc := c.toNat_lt
    refine Or.inr ⟨rfl, rfl, ⟨⟨by simp, by simp⟩, by show c.toNat < _; omega, ⟨by simp, by simp⟩, by simp [nosz]⟩, ⟨⟨by simp, by simp⟩, fun h => by simp at h⟩, ?_, Or.inr rfl, by simp [nosz]⟩
    show c :: t = [UInt8.ofNat c.toNat] ++ t
    rw [of_toNat]; rfl
theorem fwd_text (l : List UInt8) : Fwd 4 l (RS.take ⟨l, 0⟩ 4 1048576).1 (RS.take ⟨l, 0⟩ 4 1048576).2 := by
  have e : RS.take ⟨l, 0⟩ 4 1048576 = (⟨4, 0, 0, txt (RS.text ⟨l, 0⟩ 1048576).1⟩, (RS.text ⟨l, 0⟩ 1048576).2) := by simp [RS.take]
  rw [e]
  unfold RS.text
  by_cases hu : (RS.upTo ⟨l, 0⟩ 1048576).2.2 = 0
  · have hn : (num l 0).2.2 = 0 ∧ RS.upTo ⟨l, 0⟩ 1048576 = num l 0 ∧ (num l 0).1 ≤ 1048576 := by
      unfold RS.upTo at hu ⊢
      simp only [if_true] at hu ⊢
      by_cases h1 : (num l 0).2.2 = 0
      · rw [if_pos h1] at hu ⊢
        by_cases h2 : (1048576 : Int) < 0 ∨ (1048576 : Int) < ((num l 0).1 : Int)
        · rw [if_pos h2] at hu; simp at hu
        · rw [if_neg h2]
          exact ⟨h1, rfl, by omega⟩
      · rw [if_neg h1] at hu; exact absurd hu h1
    obtain ⟨h1, h2, h3⟩ := hn
    rw [if_pos hu, h2]
    obtain ⟨g1, g2, g3⟩ := num_good l h1
    by_cases hfit : (num l 0).1 ≤ l.length - (num l 0).2.1
    · rw [if_pos hfit]
      have hlen : ((l.drop (num l 0).2.1).take (num l 0).1).length = (num l 0).1 := by rw [List.length_take, List.length_drop]; omega
      refine Or.inr ⟨rfl, rfl, ⟨⟨by simp, by simp⟩, by simp, ⟨by simp, by simp⟩, ?_⟩, ⟨⟨by simp, by simp⟩, fun h => by simp at h⟩, ?_, Or.inl rfl, ?_⟩
      · show (txt _).size ≤ _
        rw [txt_size, hlen]; omega
      · show l = (form (txt ((l.drop (num l 0).2.1).take (num l 0).1)).size ++ (txt ((l.drop (num l 0).2.1).take (num l 0).1)).data.toList) ++ l.drop ((num l 0).2.1 + (num l 0).1)
        rw [txt_size, hlen, txt_list, List.append_assoc, ← List.drop_drop, List.take_append_drop]
        exact g1
      · show (txt _).size ≤ _
        rw [txt_size, hlen]; exact h3
    · rw [if_neg hfit]
      exact Or.inl ⟨by show (20 : Nat) ≠ 0; decide, rfl, rfl⟩
  · rw [if_neg hu]
    exact Or.inl ⟨hu, rfl, rfl⟩
theorem fwd_count (l : List UInt8) : Fwd 5 l (RS.take ⟨l, 0⟩ 5 1048576).1 (RS.take ⟨l, 0⟩ 5 1048576).2 := by
  have e : RS.take ⟨l, 0⟩ 5 1048576 = (⟨5, 0, (RS.count ⟨l, 0⟩ 1048576).1, ⟨#[]⟩⟩, (RS.count ⟨l, 0⟩ 1048576).2) := by simp [RS.take]
  rw [e]
  unfold RS.count
  rw [show min (1048576 : Int) 4096 = 4096 by decide]
  have hup : RS.upTo ⟨l, 0⟩ 4096 = if (num l 0).2.2 = 0 then (if (4096 : Int) < 0 ∨ (4096 : Int) < ((num l 0).1 : Int) then (0, 0, 23) else num l 0) else (0, 0, (num l 0).2.2) := by simp [RS.upTo]
  rw [hup]
  by_cases h1 : (num l 0).2.2 = 0
  · rw [if_pos h1]
    by_cases h2 : (4096 : Int) < 0 ∨ (4096 : Int) < ((num l 0).1 : Int)
    · rw [if_pos h2]
      exact Or.inl ⟨by show (23 : Nat) ≠ 0; decide, rfl, rfl⟩
    · rw [if_neg h2]
      obtain ⟨g1, g2, g3⟩ := num_good l h1
      refine Or.inr ⟨h1, rfl, ⟨⟨by simp, by simp⟩, by simp, ⟨by show _ ≤ ((num l 0).1 : Int); omega, by show ((num l 0).1 : Int) < _; omega⟩, by simp [nosz]⟩, ⟨⟨by simp, by simp⟩, fun _ => ⟨by show 0 ≤ ((num l 0).1 : Int); omega, by show ((num l 0).1 : Int) ≤ 4096; omega⟩⟩, ?_, Or.inr rfl, by simp [nosz]⟩
      show l = form ((num l 0).1 : Int).toNat ++ _
      rw [Int.toNat_natCast]; exact g1
  · rw [if_neg h1]
    exact Or.inl ⟨h1, rfl, rfl⟩
theorem take_fwd (k : Int) (l : List UInt8) (hk : 0 ≤ k ∧ k ≤ 5) : Fwd k l (RS.take ⟨l, 0⟩ k 1048576).1 (RS.take ⟨l, 0⟩ k 1048576).2 := by
  have : k = 0 ∨ k = 1 ∨ k = 2 ∨ k = 3 ∨ k = 4 ∨ k = 5 := by omega
  rcases this with rfl | rfl | rfl | rfl | rfl | rfl
  · exact fwd_uint l
  · exact fwd_int l
  · exact fwd_bool l
  · exact fwd_byte l
  · exact fwd_text l
  · exact fwd_count l
theorem enc_fits (x : V) (hf : x.fits) (hk : x.ok) (h4 : x.k = 4 ∨ x.s = ⟨#[]⟩) (hs : x.s.size ≤ 1048573) : x.enc.length ≤ 1048576 := by
  rcases h4 with h4 | h4
  · unfold V.enc
    rw [if_neg (by omega), if_neg (by omega), if_neg (by omega), if_neg (by omega), if_pos h4, List.length_append, str_size]
    have := form_le 3 x.s.size (by decide) (by omega)
    omega
  · have := (enc_len x hf hk).2
    rw [h4, nosz] at this; omega
theorem right_k (x : V) : x.right.k = kd x.k := by
  have h := kd_bd x.k
  unfold V.right
  split
  · rename_i h; exact h.symm
  split
  · rename_i h; exact h.symm
  split
  · rename_i h; exact h.symm
  split
  · rename_i h; exact h.symm
  split
  · rename_i h; exact h.symm
  · show 5 = kd x.k; omega
end Go.Proofs.Ytmabmmmiljkeeaa
