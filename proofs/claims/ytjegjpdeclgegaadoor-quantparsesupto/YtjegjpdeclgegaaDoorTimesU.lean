/-
  timesBy, whole.
-/
import Derived.Test.YtjegjpdeclgegaaDoorTimesA
namespace Go.Proofs.YtjegjpdeclgegaaDoor
open Go.RowKit Go.Lib
set_option maxHeartbeats 8000000 in
set_option maxRecDepth 100000 in
theorem times_up (a b d h l q r q' : Nat) (A : Aside (a < 18446744073709551616 ∧ b < 18446744073709551616 ∧ d < 18446744073709551616))
    (HL : Aside (h = a * b / 18446744073709551616 ∧ l = a * b % 18446744073709551616 ∧ h < d ∧ l < 18446744073709551616 ∧ q = (h * 18446744073709551616 + l) / d ∧ r = (h * 18446744073709551616 + l) % d))
    (KK : Aside (decide ((9223372036854775807 : Int) < (q : Int)) = false ∧ ((q : Int) == 9223372036854775807) = false ∧ (0 : Int) < (r : Int) ∧ (q : Int) + 1 = (q' : Int) ∧ (q' : Int) < 9223372036854775808)) (g : ¬ (d : Int) ≤ (h : Int)) (w : World) :
    Calls Tryd.prog 19 #[.int .u64 a, .int .u64 b, .int .u64 d] w fun e w' => e = .returned (.tuple #[.int .i64 q', .int .i64 0]) ∧ Below w.heap.size w w' := by
  go_enter Tryd.func19, Tryd.ntmps19
  go_wp2_with fail
  refine (Tryd.bits_Mul64 a b A.out.1 A.out.2.1 w).mono ?_
  rintro e w1 ⟨rfl, rfl⟩
  rw [← HL.out.1, ← HL.out.2.1]
  go_wp2_with fail
  refine (div_any h l d q r HL.out.2.2.1 A.out.2.2 HL.out.2.2.2.1 HL.out.2.2.2.2.1 HL.out.2.2.2.2.2 w1).mono ?_
  rintro e w2 ⟨rfl, hb⟩
  have B : Aside (Below w1.heap.size w1 w2) := hb
  clear hb
  obtain ⟨k2, k4, k9, k7, k8⟩ := KK.out
  obtain ⟨Y, hY⟩ : ∃ Y : Int, Y = (q : Int) := ⟨_, rfl⟩
  obtain ⟨Z, hZ⟩ : ∃ Z : Int, Z = (q' : Int) := ⟨_, rfl⟩
  obtain ⟨X, hX⟩ : ∃ X : Int, X = (r : Int) := ⟨_, rfl⟩
  have y0 : 0 ≤ Y := by omega
  rw [← hY] at k2 k4 k7 ⊢
  rw [← hZ] at k7 k8
  have ZZ : Aside (Z = (q' : Int)) := hZ
  have kY : Y < 9223372036854775807 := by omega
  rw [← hX] at k9 ⊢
  have z0 : 0 ≤ Z := by omega
  clear hY hZ hX KK g
  go_wp2_with fail
  go_ret2
  exact ⟨by rw [← ZZ.out]; rfl, B.out⟩
set_option maxHeartbeats 8000000 in
set_option maxRecDepth 100000 in
theorem times_under (a b d : Nat) (ha : a < 18446744073709551616) (hb : b < 18446744073709551616) (hd2 : d < 18446744073709551616) (hd : a * b / 18446744073709551616 < d) (w : World) :
    Calls Tryd.prog 19 #[.int .u64 a, .int .u64 b, .int .u64 d] w fun e w' => e = .returned (.tuple #[.int .i64 (timesT (a * b) d).1, .int .i64 (timesT (a * b) d).2]) ∧ Below w.heap.size w w' := by
  have A : Aside (a < 18446744073709551616 ∧ b < 18446744073709551616 ∧ d < 18446744073709551616) := ⟨ha, hb, hd2⟩
  obtain ⟨h, hh⟩ : ∃ h, h = a * b / 18446744073709551616 := ⟨_, rfl⟩
  obtain ⟨l, hl⟩ : ∃ l, l = a * b % 18446744073709551616 := ⟨_, rfl⟩
  obtain ⟨q, hq⟩ : ∃ q, q = a * b / d := ⟨_, rfl⟩
  obtain ⟨r, hr⟩ : ∃ r, r = a * b % d := ⟨_, rfl⟩
  have e : h * 18446744073709551616 + l = a * b := by omega
  have HL : Aside (h = a * b / 18446744073709551616 ∧ l = a * b % 18446744073709551616 ∧ h < d ∧ l < 18446744073709551616 ∧ q = (h * 18446744073709551616 + l) / d ∧ r = (h * 18446744073709551616 + l) % d) := ⟨hh, hl, by omega, by omega, by rw [e]; exact hq, by rw [e]; exact hr⟩
  have g : ¬ (d : Int) ≤ (h : Int) := by omega
  have rl : r < d := by rw [hr]; exact Nat.mod_lt _ (by omega)
  have ql : q < 18446744073709551616 := by
    rw [hq, Nat.div_lt_iff_lt_mul (by omega), ← e]
    have : (h + 1) * 18446744073709551616 ≤ d * 18446744073709551616 := Nat.mul_le_mul_right _ (by omega)
    rw [Nat.mul_comm 18446744073709551616 d]
    omega
  have TT : timesT (a * b) d = if q + (if 0 < r then 1 else 0) ≤ 9223372036854775807 then (((q + (if 0 < r then 1 else 0) : Nat) : Int), 0) else (0, 7) := by
    unfold timesT ceilT
    rw [← hq, ← hr]
  by_cases c1 : 9223372036854775807 < q
  · have V : Aside (timesT (a * b) d = (0, 7)) := by show timesT _ _ = _; rw [TT, if_neg (by omega)]
    have k1 : (9223372036854775807 : Int) < (q : Int) := by omega
    have k2 : decide ((9223372036854775807 : Int) < (q : Int)) = true := by rw [decide_eq_true_iff]; exact k1
    clear hh hl hq hr e ha hb hd2 hd rl ql TT c1
    go_enter Tryd.func19, Tryd.ntmps19
    go_wp2_with fail
    refine (Tryd.bits_Mul64 a b A.out.1 A.out.2.1 w).mono ?_
    rintro e w1 ⟨rfl, rfl⟩
    rw [← HL.out.1, ← HL.out.2.1]
    go_wp2_with fail
    refine (div_any h l d q r HL.out.2.2.1 A.out.2.2 HL.out.2.2.2.1 HL.out.2.2.2.2.1 HL.out.2.2.2.2.2 w1).mono ?_
    rintro e w2 ⟨rfl, hb⟩
    have B : Aside (Below w1.heap.size w1 w2) := hb
    clear hb
    go_wp2_with fail
    go_ret2
    exact ⟨by rw [V.out]; rfl, B.out⟩
  · by_cases c2 : q = 9223372036854775807
    · subst c2
      by_cases c3 : 0 < r
      · have V : Aside (timesT (a * b) d = (0, 7)) := by show timesT _ _ = _; rw [TT, if_pos c3, if_neg (by omega)]
        have k1 : (0 : Int) < (r : Int) := by omega
        have k2 : decide ((0 : Int) < (r : Int)) = true := by rw [decide_eq_true_iff]; exact k1
        have HQ := hid hq
        clear hh hl hq hr e ha hb hd2 hd rl ql TT c1 c3
        go_enter Tryd.func19, Tryd.ntmps19
        go_wp2_with fail
        refine (Tryd.bits_Mul64 a b A.out.1 A.out.2.1 w).mono ?_
        rintro e w1 ⟨rfl, rfl⟩
        rw [← HL.out.1, ← HL.out.2.1]
        go_wp2_with fail
        refine (div_any h l d 9223372036854775807 r HL.out.2.2.1 A.out.2.2 HL.out.2.2.2.1 HL.out.2.2.2.2.1 HL.out.2.2.2.2.2 w1).mono ?_
        rintro e w2 ⟨rfl, hb⟩
        have B : Aside (Below w1.heap.size w1 w2) := hb
        clear hb
        go_wp2_with fail
        go_ret2
        exact ⟨by rw [V.out]; rfl, B.out⟩
      · have r0 : r = 0 := by omega
        subst r0
        have V : Aside (timesT (a * b) d = (9223372036854775807, 0)) := by show timesT _ _ = _; rw [TT, if_neg c3, if_pos (by omega)]; rfl
        clear hh hl hq hr e ha hb hd2 hd rl ql TT c1 c3
        go_enter Tryd.func19, Tryd.ntmps19
        go_wp2_with fail
        refine (Tryd.bits_Mul64 a b A.out.1 A.out.2.1 w).mono ?_
        rintro e w1 ⟨rfl, rfl⟩
        rw [← HL.out.1, ← HL.out.2.1]
        go_wp2_with fail
        refine (div_any h l d 9223372036854775807 0 HL.out.2.2.1 A.out.2.2 HL.out.2.2.2.1 HL.out.2.2.2.2.1 HL.out.2.2.2.2.2 w1).mono ?_
        rintro e w2 ⟨rfl, hb⟩
        have B : Aside (Below w1.heap.size w1 w2) := hb
        clear hb
        go_wp2_with fail
        go_ret2
        exact ⟨by rw [V.out]; rfl, B.out⟩
    · have k1 : ¬ (9223372036854775807 : Int) < (q : Int) := by omega
      have k2 : decide ((9223372036854775807 : Int) < (q : Int)) = false := by rw [decide_eq_false_iff_not]; exact k1
      have k3 : ¬ (q : Int) = 9223372036854775807 := by omega
      have k4 : ((q : Int) == 9223372036854775807) = false := by simpa using k3
      have k5 : (q : Int) < 9223372036854775807 := by omega
      have KK : Aside (¬ (9223372036854775807 : Int) < (q : Int) ∧ decide ((9223372036854775807 : Int) < (q : Int)) = false ∧ ¬ (q : Int) = 9223372036854775807 ∧ ((q : Int) == 9223372036854775807) = false ∧ (q : Int) < 9223372036854775807) := ⟨k1, k2, k3, k4, k5⟩
      clear k1 k2 k3 k4 k5
      by_cases c3 : 0 < r
      · have V : timesT (a * b) d = (((q + 1 : Nat) : Int), 0) := by rw [TT, if_pos c3, if_pos (by omega)]
        rw [V]
        exact times_up a b d h l q r (q + 1) A HL ⟨KK.out.2.1, KK.out.2.2.2.1, by omega, by omega, by have := KK.out.2.2.2.2; omega⟩ g w
      · have r0 : r = 0 := by omega
        subst r0
        have V : Aside (timesT (a * b) d = ((q : Int), 0)) := by show timesT _ _ = _; rw [TT, if_neg c3, if_pos (by omega)]; rfl
        clear hh hl hq hr e ha hb hd2 hd rl ql TT c1 c2 c3
        go_enter Tryd.func19, Tryd.ntmps19
        go_wp2_with fail
        refine (Tryd.bits_Mul64 a b A.out.1 A.out.2.1 w).mono ?_
        rintro e w1 ⟨rfl, rfl⟩
        rw [← HL.out.1, ← HL.out.2.1]
        go_wp2_with fail
        refine (div_any h l d q 0 HL.out.2.2.1 A.out.2.2 HL.out.2.2.2.1 HL.out.2.2.2.2.1 HL.out.2.2.2.2.2 w1).mono ?_
        rintro e w2 ⟨rfl, hb⟩
        have B : Aside (Below w1.heap.size w1 w2) := hb
        clear hb
        obtain ⟨k1, k2, k3, k4, k5⟩ := KK.out
        go_wp2_with fail
        go_ret2
        exact ⟨by rw [V.out]; rfl, B.out⟩
theorem times_any (a b d : Nat) (ha : a < 18446744073709551616) (hb : b < 18446744073709551616) (hd2 : d < 18446744073709551616) (hd : 0 < d) (w : World) :
    Calls Tryd.prog 19 #[.int .u64 a, .int .u64 b, .int .u64 d] w fun e w' => e = .returned (.tuple #[.int .i64 (timesT (a * b) d).1, .int .i64 (timesT (a * b) d).2]) ∧ Below w.heap.size w w' := by
  by_cases h : a * b / 18446744073709551616 < d
  · exact times_under a b d ha hb hd2 h w
  · have hq : 18446744073709551616 ≤ a * b / d := by
      rw [Nat.le_div_iff_mul_le hd]
      have := Nat.div_mul_le_self (a * b) 18446744073709551616
      have : d * 18446744073709551616 ≤ a * b / 18446744073709551616 * 18446744073709551616 := Nat.mul_le_mul_right _ (by omega)
      omega
    have e : timesT (a * b) d = (0, 7) := by unfold timesT ceilT; rw [if_neg (by omega)]
    rw [e]
    exact times_over a b d ha hb (by omega) w
end Go.Proofs.YtjegjpdeclgegaaDoor
