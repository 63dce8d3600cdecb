/-
  THE FORMS of numbers, and how they are read.
-/
import Derived.WalkKit
import Derived.Laws.BitsAllLaws
import Derived.Laws.Bits64
import Derived.Laws.Bits64b
namespace Go.Proofs.YtodfmnbfbndkhaaGreatDoor

/-- A byte as a number. -/
def c8 (x : UInt8) : Int := (x.toNat : Int)
theorem c8_lo (x : UInt8) : 0 ≤ c8 x := by unfold c8; omega
theorem c8_hi (x : UInt8) : c8 x < 256 := by unfold c8; have := x.toNat_lt; omega
theorem c8_nat (x : UInt8) : (c8 x).toNat = x.toNat := by unfold c8; omega
theorem c8_inj {x y : UInt8} (h : c8 x = c8 y) : x = y := by
  unfold c8 at h; exact UInt8.toNat_inj.1 (by omega)
theorem c8_of (n : Nat) (h : n < 256) : c8 (UInt8.ofNat n) = (n : Int) := by
  unfold c8; rw [UInt8.toNat_ofNat']; omega
theorem toNat_of (n : Nat) (h : n < 256) : (UInt8.ofNat n).toNat = n := by rw [UInt8.toNat_ofNat']; omega
theorem of_toNat (c : UInt8) : UInt8.ofNat c.toNat = c := by simp

theorem take_one {α : Type} (l : List α) (k : Nat) (d : α) (h : k < l.length) : l.take (k + 1) = l.take k ++ [l.getD k d] := by
  rw [List.take_add_one]; simp [List.getD, h]

/-- The form of a number. -/
def form (v : Nat) : List UInt8 := if h : v < 128 then [UInt8.ofNat v] else UInt8.ofNat (v % 128 + 128) :: form (v / 128)
termination_by v
decreasing_by omega
theorem form_low {v : Nat} (h : v < 128) : form v = [UInt8.ofNat v] := by rw [form, dif_pos h]
theorem form_high {v : Nat} (h : ¬ v < 128) : form v = UInt8.ofNat (v % 128 + 128) :: form (v / 128) := by rw [form, dif_neg h]
theorem form_pos (v : Nat) : 1 ≤ (form v).length := by
  by_cases h : v < 128
  · rw [form_low h]; simp
  · rw [form_high h]; simp
theorem form_le (k v : Nat) (hk : 1 ≤ k) (h : v < 128 ^ k) : (form v).length ≤ k := by
  induction k generalizing v with
  | zero => omega
  | succ k ih =>
    by_cases h' : v < 128
    · rw [form_low h']; simp
    · rw [form_high h', List.length_cons]
      have h2 : v / 128 < 128 ^ k := by
        rw [Nat.pow_succ] at h; omega
      rcases Nat.eq_zero_or_pos k with rfl | hp
      · simp at h2; omega
      · have := ih (v / 128) hp h2; omega
theorem form_ten (v : Nat) (h : v < 18446744073709551616) : (form v).length ≤ 10 := form_le 10 v (by decide) (by omega)

/-- What a reader makes of bytes, i bytes behind the form's first one: the value, the form's size, the error. -/
def num : List UInt8 → Nat → Nat × Nat × Nat
  | [], i => (0, 0, if i < 10 then 20 else 21)
  | c :: t, i =>
    if 10 ≤ i then (0, 0, 21)
    else if 128 ≤ c.toNat then
      if (num t (i + 1)).2.2 = 0 then (c.toNat - 128 + 128 * (num t (i + 1)).1, (num t (i + 1)).2.1 + 1, 0) else (0, 0, (num t (i + 1)).2.2)
    else if (0 < i ∧ c.toNat = 0) ∨ (i = 9 ∧ 1 < c.toNat) then (0, 0, 21) else (c.toNat, 1, 0)

theorem num_form (v : Nat) (t : List UInt8) (i : Nat) (hi : i ≤ 9) (hv : v * 128 ^ i < 18446744073709551616) (h0 : 0 < i → 0 < v) :
    num (form v ++ t) i = (v, (form v).length, 0) := by
  induction v using Nat.strongRecOn generalizing i with
  | _ v ih =>
    by_cases h : v < 128
    · rw [form_low h, List.singleton_append, num, if_neg (by omega), toNat_of v (by omega), if_neg (by omega)]
      rw [if_neg ?_]
      · simp
      · rintro (⟨h1, h2⟩ | ⟨rfl, h2⟩)
        · have := h0 h1; omega
        · omega
    · have h9 : i ≠ 9 := by rintro rfl; omega
      have hv' : v / 128 * 128 ^ (i + 1) < 18446744073709551616 := by
        have e : v / 128 * 128 ^ (i + 1) = v / 128 * 128 * 128 ^ i := by rw [Nat.pow_succ, Nat.mul_assoc, Nat.mul_comm (128 ^ i)]
        rw [e]
        exact Nat.lt_of_le_of_lt (Nat.mul_le_mul_right _ (by omega)) hv
      rw [form_high h, List.cons_append, num, if_neg (by omega), toNat_of _ (by omega), if_pos (by omega), ih (v / 128) (by omega) (i + 1) (by omega) hv' (fun _ => by omega)]
      simp only [if_true, List.length_cons, Prod.mk.injEq, and_true]
      omega

/-- What is taken is a form. -/
theorem form_num (b : List UInt8) (i : Nat) (h : (num b i).2.2 = 0) :
    i ≤ 9 ∧ b = form (num b i).1 ++ b.drop (num b i).2.1 ∧ (num b i).2.1 = (form (num b i).1).length ∧ (num b i).1 * 128 ^ i < 18446744073709551616 ∧ (0 < i → 0 < (num b i).1) := by
  induction b generalizing i with
  | nil => simp only [num] at h; split at h <;> simp at h
  | cons c t ih =>
    have hc := c.toNat_lt
    rw [num] at h ⊢
    by_cases h1 : 10 ≤ i
    · rw [if_pos h1] at h; simp at h
    rw [if_neg h1] at h ⊢
    by_cases h2 : 128 ≤ c.toNat
    · rw [if_pos h2] at h ⊢
      by_cases h3 : (num t (i + 1)).2.2 = 0
      · rw [if_pos h3]
        obtain ⟨a1, a2, a3, a4, a5⟩ := ih (i + 1) h3
        have hp := a5 (by omega)
        have n1 : ¬ (c.toNat - 128 + 128 * (num t (i + 1)).1 < 128) := by omega
        have e1 : (c.toNat - 128 + 128 * (num t (i + 1)).1) / 128 = (num t (i + 1)).1 := by omega
        have e2 : (c.toNat - 128 + 128 * (num t (i + 1)).1) % 128 + 128 = c.toNat := by omega
        refine ⟨by omega, ?_, ?_, ?_, fun _ => by show 0 < c.toNat - 128 + 128 * (num t (i + 1)).1; omega⟩
        · show c :: t = form (c.toNat - 128 + 128 * (num t (i + 1)).1) ++ (c :: t).drop ((num t (i + 1)).2.1 + 1)
          rw [form_high n1, e1, e2, of_toNat, List.cons_append, List.drop_succ_cons, ← a2]
        · show (num t (i + 1)).2.1 + 1 = (form (c.toNat - 128 + 128 * (num t (i + 1)).1)).length
          rw [form_high n1, e1, List.length_cons, a3]
        · show (c.toNat - 128 + 128 * (num t (i + 1)).1) * 128 ^ i < 18446744073709551616
          rw [Nat.pow_succ] at a4
          have b1 : ((num t (i + 1)).1 + 1) * (128 ^ i * 128) ≤ 18446744073709551616 := by
            have d : (18446744073709551616 : Nat) = 2 ^ (64 - 7 * (i + 1)) * (128 ^ i * 128) := by
              rw [show (128 : Nat) ^ i * 128 = 128 ^ (i + 1) from (Nat.pow_succ _ _).symm, show (128 : Nat) = 2 ^ 7 from rfl, ← Nat.pow_mul, ← Nat.pow_add, show 64 - 7 * (i + 1) + 7 * (i + 1) = 64 by omega]
            rw [d] at a4 ⊢
            exact Nat.mul_le_mul_right _ (Nat.lt_of_mul_lt_mul_right a4)
          have b2 : (c.toNat - 128 + 128 * (num t (i + 1)).1) * 128 ^ i < ((num t (i + 1)).1 + 1) * (128 ^ i * 128) := by
            rw [show ((num t (i + 1)).1 + 1) * (128 ^ i * 128) = (((num t (i + 1)).1 + 1) * 128) * 128 ^ i by rw [Nat.mul_comm (128 ^ i), Nat.mul_assoc]]
            exact Nat.mul_lt_mul_of_pos_right (by omega) (Nat.pow_pos (by decide))
          omega
      · rw [if_neg h3] at h; simp at h; exact absurd h h3
    · rw [if_neg h2] at h ⊢
      by_cases h3 : (0 < i ∧ c.toNat = 0) ∨ (i = 9 ∧ 1 < c.toNat)
      · rw [if_pos h3] at h; simp at h
      · rw [if_neg h3]
        refine ⟨by omega, ?_, ?_, ?_, fun hi => by show 0 < c.toNat; omega⟩
        · show c :: t = form c.toNat ++ (c :: t).drop 1
          rw [form_low (by omega), of_toNat]; rfl
        · show 1 = (form c.toNat).length
          rw [form_low (by omega)]; rfl
        · show c.toNat * 128 ^ i < 18446744073709551616
          by_cases h9 : i = 9
          · subst h9
            have : c.toNat ≤ 1 := by omega
            omega
          · have hi : 128 ^ i ≤ 128 ^ 8 := Nat.pow_le_pow_right (by decide) (by omega)
            exact Nat.lt_of_le_of_lt (Nat.mul_le_mul (show c.toNat ≤ 127 by omega) hi) (by decide)
theorem num_err (b : List UInt8) (i : Nat) (h : (num b i).2.2 ≠ 0) : num b i = (0, 0, (num b i).2.2) := by
  cases b with
  | nil => rfl
  | cons c t =>
    rw [num] at h ⊢
    split
    · rfl
    · split
      · split
        · rename_i h1 h2 h3
          rw [if_neg h1, if_pos h2, if_pos h3] at h; simp at h
        · rfl
      · split
        · rfl
        · rename_i h1 h2 h3
          rw [if_neg h1, if_neg h2, if_neg h3] at h; simp at h

/-- The number of a signed one. -/
def zig (v : Int) : Nat := if 0 ≤ v then (2 * v).toNat else (-2 * v - 1).toNat
def zag (u : Nat) : Int := if u % 2 = 0 then (u / 2 : Nat) else -((u / 2 : Nat) : Int) - 1
theorem zag_zig (v : Int) : zag (zig v) = v := by
  unfold zag zig; split <;> split <;> omega
theorem zig_zag (u : Nat) : zig (zag u) = u := by
  unfold zag zig; split <;> split <;> omega
theorem zig_lt (v : Int) (h1 : -9223372036854775808 ≤ v) (h2 : v < 9223372036854775808) : zig v < 18446744073709551616 := by
  unfold zig; split <;> omega
theorem zag_bd (u : Nat) (h : u < 18446744073709551616) : -9223372036854775808 ≤ zag u ∧ zag u < 9223372036854775808 := by
  unfold zag; split <;> omega
end Go.Proofs.YtodfmnbfbndkhaaGreatDoor
