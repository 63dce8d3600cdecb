/-
  THE WALK of QuantScales.
-/
import Derived.Test.YtlmgpmkhbaodeaaDoorTimesU
import Derived.Test.YtlmgpmkhbaodeaaDoorKnownK
namespace Go.Proofs.YtlmgpmkhbaodeaaDoor
open Go.RowKit Go.Lib
def scaleR (v n d : Int) : Int × Int := if v < 0 ∨ n < 0 ∨ d < 1 then (0, 1) else timesT (v.toNat * n.toNat) d.toNat
set_option maxHeartbeats 4000000 in
set_option maxRecDepth 100000 in
theorem scale_bad (v n d : Int) (h : v < 0 ∨ n < 0 ∨ d < 1) (w : World) :
    Calls Tryd.prog 16 #[.int .i64 v, .int .i64 n, .int .i64 d] w fun e w' => e = .returned (.tuple #[.int .i64 0, .int .i64 1]) ∧ RowKit.Below w.heap.size w w' := by
  by_cases h1 : v < 0
  · have g1 : decide (v < 0) = true := decide_eq_true h1
    go_enter Tryd.func16, Tryd.ntmps16
    go_wp2_with fail
    go_ret2
    exact ⟨rfl, RowKit.Below.refl _ _⟩
  · have g1 : decide (v < 0) = false := decide_eq_false h1
    by_cases h2 : n < 0
    · have g2 : decide (n < 0) = true := decide_eq_true h2
      go_enter Tryd.func16, Tryd.ntmps16
      go_wp2_with fail
      go_ret2
      exact ⟨rfl, RowKit.Below.refl _ _⟩
    · have g2 : decide (n < 0) = false := decide_eq_false h2
      have g3 : decide (d < 1) = true := decide_eq_true (by omega)
      go_enter Tryd.func16, Tryd.ntmps16
      go_wp2_with fail
      go_ret2
      exact ⟨rfl, RowKit.Below.refl _ _⟩
set_option maxHeartbeats 4000000 in
set_option maxRecDepth 100000 in
theorem scale_good (V N D : Nat) (hV : V < 9223372036854775808) (hN : N < 9223372036854775808) (hD : D < 9223372036854775808) (h1 : 1 ≤ D) (w : World) :
    Calls Tryd.prog 16 #[.int .i64 V, .int .i64 N, .int .i64 D] w fun e w' => e = .returned (.tuple #[.int .i64 (timesT (V * N) D).1, .int .i64 (timesT (V * N) D).2]) ∧ RowKit.Below w.heap.size w w' := by
  have TA := Lib.hid (times_any V N D (by omega) (by omega) (by omega) (by omega))
  obtain ⟨⟨q, e⟩, hq⟩ : ∃ r, r = timesT (V * N) D := ⟨_, rfl⟩
  rw [← hq] at TA ⊢
  have g1 : decide ((V : Int) < 0) = false := decide_eq_false (by omega)
  have g2 : decide ((N : Int) < 0) = false := decide_eq_false (by omega)
  have g3 : decide ((D : Int) < 1) = false := decide_eq_false (by omega)
  have k1 : (V : Int) < 9223372036854775808 := by omega
  have k2 : (N : Int) < 9223372036854775808 := by omega
  have k3 : (D : Int) < 9223372036854775808 := by omega
  clear hq hV hN hD h1
  go_enter Tryd.func16, Tryd.ntmps16
  go_wp2_with fail
  refine (TA.out w).mono ?_
  rintro r w1 ⟨rfl, hb⟩
  have B1 := Lib.hid hb
  clear hb TA
  go_wp2_with fail
  go_ret2
  exact ⟨rfl, B1.out⟩
/-- A number of two words. -/
theorem two_ge {X T : Nat} (h : T ≤ X) : X / 18446744073709551616 > T / 18446744073709551616 ∨ (X / 18446744073709551616 = T / 18446744073709551616 ∧ T % 18446744073709551616 ≤ X % 18446744073709551616) := by omega
theorem two_lt {X T : Nat} (h : X < T) : X / 18446744073709551616 < T / 18446744073709551616 ∨ (X / 18446744073709551616 = T / 18446744073709551616 ∧ X % 18446744073709551616 < T % 18446744073709551616) := by omega
theorem ceil_ge (T d : Nat) (hd : 0 < d) : T ≤ ceilT T d * d := by
  unfold ceilT
  have h := Nat.div_add_mod T d
  have h2 := Nat.mod_lt T hd
  rw [Nat.mul_comm] at h
  by_cases hr : 0 < T % d
  · rw [if_pos hr, Nat.add_mul]; omega
  · rw [if_neg hr, Nat.add_zero]; omega
theorem ceil_lt (T d k : Nat) (hd : 0 < d) (hk : k < ceilT T d) : k * d < T := by
  unfold ceilT at hk
  have h := Nat.div_add_mod T d
  rw [Nat.mul_comm] at h
  by_cases hr : 0 < T % d
  · rw [if_pos hr] at hk
    have : k * d ≤ T / d * d := Nat.mul_le_mul_right _ (by omega)
    omega
  · rw [if_neg hr, Nat.add_zero] at hk
    have : (k + 1) * d ≤ T / d * d := Nat.mul_le_mul_right _ (by omega)
    rw [Nat.add_mul] at this
    omega
set_option maxHeartbeats 8000000 in
set_option maxRecDepth 100000 in
theorem quantScales_bad (v n d : Int) (h : v < 0 ∨ n < 0 ∨ d < 1) (w : World) (G : Glob w) :
    Calls Tryd.prog 5 #[.int .i64 v, .int .i64 n, .int .i64 d] w fun e w' => e = .returned (.bool true) ∧ RowKit.Below w.heap.size w w' := by
  have K := Lib.hid (known_ok w G)
  have SB := Lib.hid (scale_bad v n d h)
  clear G
  by_cases h1 : v < 0
  · have g1 : decide (v < 0) = true := decide_eq_true h1
    go_enter Tryd.func5, Tryd.ntmps5
    go_wp2_with fail
    refine K.out.mono ?_
    rintro e w1 ⟨rfl, hb⟩
    have B1 := Lib.hid hb
    clear hb K
    go_wp2_with fail
    refine (SB.out w1).mono ?_
    rintro e w2 ⟨rfl, hb⟩
    have B2 := Lib.hid (B1.out.trans (hb.mono B1.out.size))
    clear hb
    go_wp2_with fail
    go_ret
    exact ⟨rfl, B2.out⟩
  · have g1 : decide (v < 0) = false := decide_eq_false h1
    by_cases h2 : n < 0
    · have g2 : decide (n < 0) = true := decide_eq_true h2
      go_enter Tryd.func5, Tryd.ntmps5
      go_wp2_with fail
      refine K.out.mono ?_
      rintro e w1 ⟨rfl, hb⟩
      have B1 := Lib.hid hb
      clear hb K
      go_wp2_with fail
      refine (SB.out w1).mono ?_
      rintro e w2 ⟨rfl, hb⟩
      have B2 := Lib.hid (B1.out.trans (hb.mono B1.out.size))
      clear hb
      go_wp2_with fail
      go_ret
      exact ⟨rfl, B2.out⟩
    · have g2 : decide (n < 0) = false := decide_eq_false h2
      have g3 : decide (d < 1) = true := decide_eq_true (by omega)
      go_enter Tryd.func5, Tryd.ntmps5
      go_wp2_with fail
      refine K.out.mono ?_
      rintro e w1 ⟨rfl, hb⟩
      have B1 := Lib.hid hb
      clear hb K
      go_wp2_with fail
      refine (SB.out w1).mono ?_
      rintro e w2 ⟨rfl, hb⟩
      have B2 := Lib.hid (B1.out.trans (hb.mono B1.out.size))
      clear hb
      go_wp2_with fail
      go_ret
      exact ⟨rfl, B2.out⟩
set_option maxHeartbeats 8000000 in
set_option maxRecDepth 100000 in
theorem quantScales_good (V N D : Nat) (hV : V < 9223372036854775808) (hN : N < 9223372036854775808) (hD : D < 9223372036854775808) (h1 : 1 ≤ D) (w : World) (G : Glob w) :
    Calls Tryd.prog 5 #[.int .i64 V, .int .i64 N, .int .i64 D] w fun e w' => e = .returned (.bool true) ∧ RowKit.Below w.heap.size w w' := by
  have K := Lib.hid (known_ok w G)
  have SG := Lib.hid (scale_good V N D hV hN hD h1)
  have M1 := Lib.hid (Tryd.bits_Mul64 V N (by omega) (by omega))
  have M2 : Hid (∀ q : Nat, q < 9223372036854775808 → ∀ W, Calls Tryd.prog 14 #[.int .u64 q, .int .u64 D] W fun e w' => e = .returned (.tuple #[.int .u64 ((q * D / 18446744073709551616 : Nat) : Int), .int .u64 ((q * D % 18446744073709551616 : Nat) : Int)]) ∧ w' = W) := Lib.hid fun q hq W => Tryd.bits_Mul64 q D (by omega) (by omega) W
  have CG : Hid (∀ k, k < ceilT (V * N) D → k * D < V * N) := Lib.hid fun k hk => ceil_lt _ _ _ h1 hk
  have CE : Hid (V * N ≤ ceilT (V * N) D * D) := Lib.hid (ceil_ge _ _ h1)
  have g1 : decide ((V : Int) < 0) = false := decide_eq_false (by omega)
  have g2 : decide ((N : Int) < 0) = false := decide_eq_false (by omega)
  have g3 : decide ((D : Int) < 1) = false := decide_eq_false (by omega)
  have k1 : (V : Int) < 9223372036854775808 := by omega
  have k2 : (N : Int) < 9223372036854775808 := by omega
  have k3 : (D : Int) < 9223372036854775808 := by omega
  obtain ⟨T, hT⟩ : ∃ T, T = V * N := ⟨_, rfl⟩
  rw [← hT] at SG M1 CG CE
  obtain ⟨hi, hhi⟩ : ∃ h : Nat, h = T / 18446744073709551616 := ⟨_, rfl⟩
  obtain ⟨lo, hlo⟩ : ∃ h : Nat, h = T % 18446744073709551616 := ⟨_, rfl⟩
  rw [← hhi, ← hlo] at M1
  have HL := Lib.hid (And.intro hhi hlo)
  clear hhi hlo hT hV hN hD h1 G
  by_cases hc : ceilT T D ≤ 9223372036854775807
  · obtain ⟨q, hq⟩ : ∃ q, q = ceilT T D := ⟨_, rfl⟩
    have hr : timesT T D = ((q : Int), 0) := by unfold timesT; rw [if_pos hc, hq]
    rw [hr] at SG
    rw [← hq] at CG CE hc
    have kq : (q : Int) < 9223372036854775808 := by omega
    have MQ := Lib.hid (M2.out q (by omega))
    obtain ⟨a, ha⟩ : ∃ h : Nat, h = q * D / 18446744073709551616 := ⟨_, rfl⟩
    obtain ⟨b, hb⟩ : ∃ h : Nat, h = q * D % 18446744073709551616 := ⟨_, rfl⟩
    rw [← ha, ← hb] at MQ
    have EN : Hid (a > hi ∨ (a = hi ∧ lo ≤ b)) := Lib.hid (by rw [ha, hb, HL.out.1, HL.out.2]; exact two_ge CE.out)
    have AB := Lib.hid (And.intro ha hb)
    have CE2 : Hid (T ≤ q * D) := CE
    clear hr hq ha hb hc CE
    by_cases q0 : q = 0
    · subst q0
      have T0 : T = 0 := by have := CE2.out; omega
      have h0 : hi = 0 := by rw [HL.out.1, T0]
      have l0 : lo = 0 := by rw [HL.out.2, T0]
      subst h0 l0
      have a0 : a = 0 := by rw [AB.out.1]; simp
      have b0 : b = 0 := by rw [AB.out.2]; simp
      subst a0 b0
      clear T0 EN
      go_enter Tryd.func5, Tryd.ntmps5
      go_wp2_with fail
      refine K.out.mono ?_
      rintro e w1 ⟨rfl, hb⟩
      have B1 := Lib.hid hb
      clear hb K
      go_wp2_with fail
      refine (SG.out w1).mono ?_
      rintro e w2 ⟨rfl, hb⟩
      have B2 := Lib.hid (B1.out.trans (hb.mono B1.out.size))
      clear hb B1 SG
      go_wp2_with fail
      refine (M1.out w2).mono ?_
      rintro e w3 ⟨rfl, rfl⟩
      clear M1
      go_wp2_with fail
      refine (MQ.out _).mono ?_
      rintro e w4 ⟨rfl, rfl⟩
      clear MQ
      go_wp2_with fail
      go_ret
      exact ⟨rfl, B2.out⟩
    · obtain ⟨p, hp⟩ : ∃ p, p = q - 1 := ⟨_, rfl⟩
      have pq : q = p + 1 := by omega
      have MP := Lib.hid (M2.out p (by omega))
      obtain ⟨c, hc⟩ : ∃ h : Nat, h = p * D / 18446744073709551616 := ⟨_, rfl⟩
      obtain ⟨f, hf⟩ : ∃ h : Nat, h = p * D % 18446744073709551616 := ⟨_, rfl⟩
      rw [← hc, ← hf] at MP
      have LT : Hid (c < hi ∨ (c = hi ∧ f < lo)) := Lib.hid (by rw [hc, hf, HL.out.1, HL.out.2]; exact two_lt (CG.out p (by omega)))
      have em : ((q : Int) - 1) = (p : Int) := by omega
      have gq : decide ((q : Int) < 0) = false := decide_eq_false (by omega)
      have gz : ((q : Int) == 0) = false := by rw [beq_eq_false_iff_ne]; omega
      have kp : (p : Int) < 9223372036854775808 := by omega
      clear hc hf hp pq q0
      have FIN : Hid (∀ (K2 : Prop), ((decide ((a : Int) > (hi : Int)) = true ∨ (decide ((a : Int) > (hi : Int)) = false ∧ ((a : Int) == (hi : Int)) = true ∧ decide ((b : Int) ≥ (lo : Int)) = true)) → K2) → K2) := Lib.hid fun K2 h => h (by
        rcases EN.out with h | ⟨h, h'⟩
        · exact .inl (decide_eq_true (by omega))
        · exact .inr ⟨decide_eq_false (by omega), by rw [beq_iff_eq]; omega, decide_eq_true (by omega)⟩)
      have FI2 : Hid (decide ((c : Int) < (hi : Int)) = true ∨ (decide ((c : Int) < (hi : Int)) = false ∧ ((c : Int) == (hi : Int)) = true ∧ decide ((f : Int) < (lo : Int)) = true)) := Lib.hid (by
        rcases LT.out with h | ⟨h, h'⟩
        · exact .inl (decide_eq_true (by omega))
        · exact .inr ⟨decide_eq_false (by omega), by rw [beq_iff_eq]; omega, decide_eq_true (by omega)⟩)
      go_enter Tryd.func5, Tryd.ntmps5
      go_wp2_with fail
      refine K.out.mono ?_
      rintro e w1 ⟨rfl, hb⟩
      have B1 := Lib.hid hb
      clear hb K
      go_wp2_with fail
      refine (SG.out w1).mono ?_
      rintro e w2 ⟨rfl, hb⟩
      have B2 := Lib.hid (B1.out.trans (hb.mono B1.out.size))
      clear hb B1 SG
      go_wp2_with fail
      refine (M1.out w2).mono ?_
      rintro e w3 ⟨rfl, rfl⟩
      clear M1
      go_wp2_with fail
      refine (MQ.out _).mono ?_
      rintro e w4 ⟨rfl, rfl⟩
      clear MQ
      refine FIN.out _ ?_
      rintro (e1 | ⟨e1, e2, e3⟩)
      · have e1' : hi < a := by have := of_decide_eq_true e1; omega
        go_wp2_with fail
        refine (MP.out _).mono ?_
        rintro e w5 ⟨rfl, rfl⟩
        clear MP e1
        rcases FI2.out with f1 | ⟨f1, f2, f3⟩
        · have f1' : c < hi := by have := of_decide_eq_true f1; omega
          go_wp2_with fail
          go_ret
          exact ⟨rfl, B2.out⟩
        · have f2' : c = hi := by have := beq_iff_eq.1 f2; omega
          have f3' : f < lo := by have := of_decide_eq_true f3; omega
          subst f2'
          go_wp2_with fail
          go_ret
          exact ⟨rfl, B2.out⟩
      · have e2' : a = hi := by have := beq_iff_eq.1 e2; omega
        have e3' : lo ≤ b := by have := of_decide_eq_true e3; omega
        subst e2'
        go_wp2_with fail
        refine (MP.out _).mono ?_
        rintro e w5 ⟨rfl, rfl⟩
        clear MP e1 e2 e3
        rcases FI2.out with f1 | ⟨f1, f2, f3⟩
        · have f1' : c < a := by have := of_decide_eq_true f1; omega
          go_wp2_with fail
          go_ret
          exact ⟨rfl, B2.out⟩
        · have f2' : c = a := by have := beq_iff_eq.1 f2; omega
          have f3' : f < lo := by have := of_decide_eq_true f3; omega
          subst f2'
          go_wp2_with fail
          go_ret
          exact ⟨rfl, B2.out⟩
  · have hr : timesT T D = (0, 7) := by unfold timesT; rw [if_neg hc]
    rw [hr] at SG
    have MM : Hid (∀ W, Calls Tryd.prog 14 #[.int .u64 9223372036854775807, .int .u64 D] W fun e w' => e = .returned (.tuple #[.int .u64 ((9223372036854775807 * D / 18446744073709551616 : Nat) : Int), .int .u64 ((9223372036854775807 * D % 18446744073709551616 : Nat) : Int)]) ∧ w' = W) := Lib.hid (M2.out 9223372036854775807 (by omega))
    obtain ⟨c, hc2⟩ : ∃ h : Nat, h = 9223372036854775807 * D / 18446744073709551616 := ⟨_, rfl⟩
    obtain ⟨f, hf⟩ : ∃ h : Nat, h = 9223372036854775807 * D % 18446744073709551616 := ⟨_, rfl⟩
    rw [← hc2, ← hf] at MM
    have FI2 : Hid (c < hi ∨ (c = hi ∧ f < lo)) := Lib.hid (by rw [hc2, hf, HL.out.1, HL.out.2]; exact two_lt (CG.out 9223372036854775807 (by omega)))
    clear hr hc hc2 hf M2
    go_enter Tryd.func5, Tryd.ntmps5
    go_wp2_with fail
    refine K.out.mono ?_
    rintro e w1 ⟨rfl, hb⟩
    have B1 := Lib.hid hb
    clear hb K
    go_wp2_with fail
    refine (SG.out w1).mono ?_
    rintro e w2 ⟨rfl, hb⟩
    have B2 := Lib.hid (B1.out.trans (hb.mono B1.out.size))
    clear hb B1 SG
    go_wp2_with fail
    refine (M1.out w2).mono ?_
    rintro e w3 ⟨rfl, rfl⟩
    clear M1
    go_wp2_with fail
    refine (MM.out _).mono ?_
    rintro e w4 ⟨rfl, rfl⟩
    clear MM
    rcases FI2.out with f1 | ⟨f1, f3⟩
    · have f1' : decide ((c : Int) < (hi : Int)) = true := decide_eq_true (by omega)
      go_wp2_with fail
      go_ret
      exact ⟨rfl, B2.out⟩
    · subst f1
      have f3' : decide ((f : Int) < (lo : Int)) = true := decide_eq_true (by omega)
      go_wp2_with fail
      go_ret
      exact ⟨rfl, B2.out⟩
theorem quantScales_walk (v n d : Int) (w : World) (G : Glob w) (hv : -9223372036854775808 ≤ v ∧ v < 9223372036854775808) (hn : -9223372036854775808 ≤ n ∧ n < 9223372036854775808) (hd : -9223372036854775808 ≤ d ∧ d < 9223372036854775808) :
    Calls Tryd.prog 5 #[.int .i64 v, .int .i64 n, .int .i64 d] w fun e w' => e = .returned (.bool true) ∧ RowKit.Below w.heap.size w w' := by
  by_cases h : v < 0 ∨ n < 0 ∨ d < 1
  · exact quantScales_bad v n d h w G
  · obtain ⟨V, rfl⟩ : ∃ u : Nat, v = u := ⟨v.toNat, by omega⟩
    obtain ⟨N, rfl⟩ : ∃ u : Nat, n = u := ⟨n.toNat, by omega⟩
    obtain ⟨D, rfl⟩ : ∃ u : Nat, d = u := ⟨d.toNat, by omega⟩
    exact quantScales_good V N D (by omega) (by omega) (by omega) (by omega) w G
end Go.Proofs.YtlmgpmkhbaodeaaDoor
