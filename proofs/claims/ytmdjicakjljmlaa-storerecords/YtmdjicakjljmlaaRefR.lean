/-
  THE DOCUMENTS READER: number.
-/
import Derived.Test.YtmdjicakjljmlaaHand
namespace Go.Proofs.Ytmdjicakjljmlaa
open Go.RowKit

/-- The worth of the first k groups. -/
def low (l : List UInt8) : Nat → Nat
  | 0 => 0
  | k + 1 => low l k + 128 ^ k * ((l.getD k 0).toNat % 128)
theorem low_lt (l : List UInt8) (k : Nat) : low l k < 128 ^ k := by
  induction k with
  | zero => simp [low]
  | succ k ih =>
    rw [low, Nat.pow_succ]
    have : 128 ^ k * ((l.getD k 0).toNat % 128) ≤ 128 ^ k * 127 := Nat.mul_le_mul_left _ (by omega)
    omega
theorem low_more (l : List UInt8) (k : Nat) (hk : k < l.length) (h9 : k < 10) (hc : 128 ≤ (l.getD k 0).toNat) (h : num l 0 = lift (low l k) k (num (l.drop k) k)) :
    num l 0 = lift (low l (k + 1)) (k + 1) (num (l.drop (k + 1)) (k + 1)) := by
  rw [h, lift_more hk h9 hc, low]
  have := (l.getD k 0).toNat_lt
  rw [show (l.getD k 0).toNat % 128 = (l.getD k 0).toNat - 128 by omega]

set_option maxHeartbeats 8000000 in
set_option maxRecDepth 100000 in
theorem ynumber_any (v : Value) (l : List UInt8) (w : World) (hv : Bytes w v l) :
    Calls Try.prog 46 #[v] w fun e w' => e = .returned (.tuple #[.int .u64 (num l 0).1, .int .i64 (num l 0).2.1, .int .i64 (num l 0).2.2]) ∧ w' = w := by
  obtain ⟨a, cap, rfl, hlc, hcm, _, hc⟩ := hv
  unfold maxLen at hcm
  have Hc : Aside (∀ k, k < l.length → ∃ b off, a = some ⟨b, off, none⟩ ∧ w.cell? ⟨b, off + k, none⟩ = some (.int .u8 (c8 (l.getD k 0)))) := hc
  clear hc
  go_enter Try.func46, Try.ntmps46
  go_wp2_with fail
  go_loopg [5] l.length (fun g si wr => ∃ (k : Nat), k ≤ l.length ∧ k ≤ 10 ∧ g = l.length - k ∧ si = .int .i64 k ∧ num l 0 = lift (low l k) k (num (l.drop k) k) ∧ wr = w)
  case atStart => exact ⟨0, by omega, by omega, by omega, rfl, lift_zero l, rfl⟩
  case round =>
    obtain ⟨k, hk, hk10, hg, rfl, hnum, rfl⟩ := hrel
    have R : Aside (gk = l.length - k ∧ num l 0 = lift (low l k) k (num (l.drop k) k)) := ⟨hg, hnum⟩
    clear hg hnum
    by_cases h1 : k < l.length
    · have h1' : (k : Int) < (l.length : Int) := by omega
      by_cases h2 : k < 10
      · have h2' : (k : Int) < 10 := by omega
        obtain ⟨b, off, rfl, hcell⟩ := Hc.out k h1
        obtain ⟨c, hcc⟩ : ∃ c, c = l.getD k 0 := ⟨_, rfl⟩
        rw [← hcc] at hcell
        have c0 := c8_lo c
        have c1 := c8_hi c
        have C : Aside (c = l.getD k 0) := hcc
        clear hcc
        by_cases hc : 128 ≤ c8 c
        · go_wp2_with fail
          go_roundg (l.length - (k + 1))
          case measure => have := R.out.1; omega
          case rel =>
            refine ⟨k + 1, by omega, by omega, rfl, by go_num, ?_, rfl⟩
            exact low_more l k h1 h2 (by rw [← C.out]; unfold c8 at hc; omega) R.out.2
        · have hcd : decide ((128 : Int) ≤ c8 c) = false := by rw [decide_eq_false_iff_not]; exact hc
          have ne1 : ((k : Int) == 10) = false := by rw [beq_eq_false_iff_ne]; omega
          have ne2 : ((k : Int) == (l.length : Int)) = false := by rw [beq_eq_false_iff_ne]; omega
          have hcn : c.toNat < 128 := by unfold c8 at hc; omega
          have Z : Aside (num l 0 = if (0 < k ∧ c.toNat = 0) ∨ (k = 9 ∧ 1 < c.toNat) then (0, 0, 21) else (low l k + 128 ^ k * c.toNat, k + 1, 0)) := by
            have := lift_last (A := low l k) h1 h2 (by rw [← C.out]; exact hcn)
            rw [← C.out] at this
            show _ = _
            rw [R.out.2, this]
          by_cases hbad : (0 < k ∧ c.toNat = 0) ∨ (k = 9 ∧ 1 < c.toNat)
          · have Z2 : Aside (num l 0 = (0, 0, 21)) := by have := Z.out; rw [if_pos hbad] at this; exact this
            rcases hbad with ⟨q1, q2⟩ | ⟨q1, q2⟩
            · have q2' : c8 c = 0 := by unfold c8; omega
              have q1' : (0 : Int) < (k : Int) := by omega
              clear q2 Z hcn
              go_wp2_with fail
              go_ret3
              rw [Z2.out]
              exact ⟨rfl, rfl⟩
            · have q2' : 1 < c8 c := by unfold c8; omega
              have q2'' : (c8 c == 0) = false := by rw [beq_eq_false_iff_ne]; omega
              clear q2 Z hcn
              subst q1
              go_wp2_with fail
              go_ret3
              rw [Z2.out]
              exact ⟨rfl, rfl⟩
          · have Z2 : Aside (num l 0 = (low l (k + 1), k + 1, 0)) := by
              have := Z.out; rw [if_neg hbad] at this
              show _ = _
              rw [this, low, ← C.out, Nat.mod_eq_of_lt hcn]
            have bnd : low l (k + 1) < 18446744073709551616 := by
              have h3 := (num_lt l).1
              rw [Z2.out] at h3; exact h3
            have BD : Aside (low l (k + 1) < 18446744073709551616) := bnd
            clear bnd
            have n1 : 0 < k → (c8 c == 0) = false := fun hp => by rw [beq_eq_false_iff_ne]; unfold c8; omega
            have n2 : k = 9 → decide (1 < c8 c) = false := fun hp => by rw [decide_eq_false_iff_not]; unfold c8; omega
            clear hbad Z hcn
            have fit : ∀ i n : Nat, low l (k + 1) = low l (i + 1) + 128 ^ (i + 1) * n → n * 128 + (l.getD i 0).toNat % 128 < 18446744073709551616 ∧ low l (k + 1) = low l i + 128 ^ i * (n * 128 + (l.getD i 0).toNat % 128) := fun i n h => by
              have h2 : low l (k + 1) = low l i + 128 ^ i * (n * 128 + (l.getD i 0).toNat % 128) := by
                rw [h, low, Nat.pow_succ, Nat.mul_add, Nat.add_assoc, Nat.mul_assoc, Nat.mul_comm 128 n, Nat.add_comm (128 ^ i * _) (128 ^ i * _)]
              have h3 := BD.out
              have h4 : 1 * (n * 128 + (l.getD i 0).toNat % 128) ≤ 128 ^ i * (n * 128 + (l.getD i 0).toNat % 128) := Nat.mul_le_mul_right _ (Nat.pos_of_ne_zero (by simp))
              exact ⟨by omega, h2⟩
            have Fit : Aside (∀ i n : Nat, low l (k + 1) = low l (i + 1) + 128 ^ (i + 1) * n → n * 128 + (l.getD i 0).toNat % 128 < 18446744073709551616 ∧ low l (k + 1) = low l i + 128 ^ i * (n * 128 + (l.getD i 0).toNat % 128)) := fit
            clear fit
            have gd : (¬ 0 < k ∧ decide (0 < k) = false) ∨ (0 < k ∧ (c8 c == 0) = false ∧ ((k : Int) == 9) = true ∧ decide (1 < c8 c) = false) ∨ (0 < k ∧ (c8 c == 0) = false ∧ ((k : Int) == 9) = false) := by
              rcases Nat.eq_zero_or_pos k with q | q
              · left; exact ⟨by omega, by rw [decide_eq_false_iff_not]; omega⟩
              · right
                by_cases h9 : k = 9
                · left; exact ⟨q, n1 q, by rw [beq_iff_eq]; omega, n2 h9⟩
                · right; exact ⟨q, n1 q, by rw [beq_eq_false_iff_ne]; omega⟩
            clear n1 n2
            have gd0 : k = 0 → ((k : Int) == 9) = false := fun q => by rw [beq_eq_false_iff_ne]; omega
            rcases gd with ⟨g1, g0⟩ | ⟨g1, g2, g3, g4⟩ | ⟨g1, g2, g3⟩
            rotate_left 1
            all_goals
              try have g3' := gd0 (by omega)
              clear gd0
              go_wp2_with fail
              clear hcell g1
              try clear g2
              try clear g3
              try clear g3'
              go_loopg [6, 7] (k + 1) (fun g sv si wr2 => ∃ (j n : Nat) (m : Int), j ≤ k + 1 ∧ g = j ∧ m = (j : Int) - 1 ∧ si = .int .i64 m ∧ sv = .int .u64 n ∧ low l (k + 1) = low l j + 128 ^ j * n ∧ wr2 = wr)
              case atStart => exact ⟨k + 1, 0, _, Nat.le_refl _, rfl, by omega, rfl, rfl, by simp, rfl⟩
              case round =>
                obtain ⟨j, n, m, hj, hg, hm, rfl, rfl, hlow, rfl⟩ := hrel
                have R2 : Aside (gk = j ∧ low l (k + 1) = low l j + 128 ^ j * n) := ⟨hg, hlow⟩
                clear hg hlow
                rcases Nat.eq_zero_or_pos j with h0 | h0
                · subst h0
                  obtain rfl : m = -1 := by omega
                  clear hm
                  go_wp2_with fail
                  go_ret3
                  have hz := R2.out.2
                  rw [low, Nat.pow_zero, Nat.one_mul, Nat.zero_add] at hz
                  rw [Z2.out, hz]
                  exact ⟨tup3 rfl (by simp) rfl, rfl⟩
                · obtain ⟨i, rfl⟩ : ∃ i, j = i + 1 := ⟨j - 1, by omega⟩
                  obtain rfl : m = (i : Int) := by omega
                  clear hm h0
                  obtain ⟨b2, off2, he, hcell2⟩ := Hc.out i (by omega)
                  cases he
                  have ft := Fit.out i n R2.out.2
                  obtain ⟨d, hd⟩ : ∃ d, d = l.getD i 0 := ⟨_, rfl⟩
                  rw [← hd] at hcell2 ft
                  have d0 := c8_lo d
                  have d1 := c8_hi d
                  have Ft : Aside (low l (k + 1) = low l i + 128 ^ i * (n * 128 + d.toNat % 128)) := ft.2
                  have f1 : n * 128 + d.toNat % 128 < 18446744073709551616 := ft.1
                  clear ft hd
                  go_wp2_with fail
                  go_roundg i
                  case measure => have := R2.out.1; omega
                  case rel =>
                    refine ⟨i, n * 128 + d.toNat % 128, _, by omega, rfl, ?_, rfl, ?_, Ft.out, rfl⟩
                    · rfl
                    · exact congrArg _ (by unfold c8; omega)
      · obtain rfl : k = 10 := by omega
        have Z : Aside (num l 0 = (0, 0, 21)) := by
          have := lift_end (A := low l 10) (l := l) (k := 10) (Or.inr rfl) hk hk10
          rw [if_neg (by omega)] at this
          rw [R.out.2]; exact this
        go_wp2_with fail
        go_ret3
        rw [Z.out]
        exact ⟨rfl, rfl⟩
    · obtain rfl : k = l.length := by omega
      have hd : decide ((l.length : Int) < (l.length : Int)) = false := by simp
      have Z : Aside (num l 0 = (0, 0, if l.length < 10 then 20 else 21)) := by
        rw [R.out.2]; exact lift_end (Or.inl rfl) hk hk10
      by_cases h10 : l.length < 10
      · rw [if_pos h10] at Z
        have ne1 : ((l.length : Int) == 10) = false := by rw [beq_eq_false_iff_ne]; omega
        go_wp2_with fail
        go_ret3
        rw [Z.out]
        exact ⟨rfl, rfl⟩
      · rw [if_neg h10] at Z
        have ne1 : (l.length : Int) = 10 := by omega
        go_wp2_with fail
        go_ret3
        rw [Z.out]
        exact ⟨rfl, rfl⟩
end Go.Proofs.Ytmdjicakjljmlaa
