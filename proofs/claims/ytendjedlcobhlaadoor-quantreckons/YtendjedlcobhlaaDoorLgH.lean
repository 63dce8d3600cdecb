/-
  The document's Scale.
-/
import Derived.Test.YtendjedlcobhlaaDoorLgG
namespace Go.Proofs.YtendjedlcobhlaaDoor
open Go.RowKit Go.Lib
open Go.Sort (grow)
namespace Lg
theorem dg_none {x : Nat} (h : x = 0) : (dg x).length = 0 := by rw [h, dg_zero]; rfl
theorem dg_some {x : Nat} (h : 0 < x) : 0 < (dg x).length := by rw [dg_pos h]; simp
set_option maxHeartbeats 8000000 in
set_option maxRecDepth 100000 in
theorem refScale_good (V N D : Nat) (hV : V ≤ 9223372036854775807) (hN : N ≤ 9223372036854775807) (hD : D ≤ 9223372036854775807) (h1 : 1 ≤ D) (CC : Nat) (x E : Int) (hC : CC = ceilT (V * N) D) (hX : (CC ≤ 9223372036854775807 ∧ x = (CC : Int) ∧ E = 0) ∨ (9223372036854775807 < CC ∧ x = 0 ∧ E = 7)) (w : World) :
    Calls Tryd.prog 28 #[.int .i64 (V : Int), .int .i64 (N : Int), .int .i64 (D : Int)] w fun e w' => e = .returned (.tuple #[.int .i64 x, .int .i64 E]) ∧ Below w.heap.size w w' := by
  have LV := Lib.hid (fun W => long_n V W hV)
  have LN := Lib.hid (fun W => long_n N W hN)
  have LD := Lib.hid (fun W => long_n D W hD)
  have L1 := Lib.hid (fun W => long_n 1 W (by decide))
  have HX := Lib.hid hX
  obtain ⟨T, hT⟩ : ∃ T, T = V * N := ⟨_, rfl⟩
  have TL : Hid (T < 10 ^ 38) := Lib.hid (by
    rw [hT]
    have q1 : V * N ≤ 9999999999999999999 * 9999999999999999999 := Nat.mul_le_mul (by omega) (by omega)
    exact Nat.lt_of_le_of_lt q1 (by decide))
  have CE : Hid (CC = ceilT T D ∧ T = V * N ∧ 1 ≤ D) := Lib.hid ⟨by rw [hT]; exact hC, hT, h1⟩
  have QL : Hid (T / D < 10 ^ 38) := Lib.hid (Nat.lt_of_le_of_lt (Nat.div_le_self _ _) TL.out)
  have CL : Hid (CC < 10 ^ 39) := Lib.hid (by
    rw [CE.out.1]
    unfold ceilT
    have q1 := QL.out
    have q2 : (10 : Nat) ^ 38 + 1 ≤ 10 ^ 39 := by decide
    split <;> omega)
  have g1 : decide ((V : Int) < 0) = false := decide_eq_false (by omega)
  have g2 : decide ((N : Int) < 0) = false := decide_eq_false (by omega)
  have g3 : decide ((D : Int) < 1) = false := decide_eq_false (by omega)
  clear hV hN hD hC hX hT h1
  go_enter Tryd.func28, Tryd.ntmps28
  go_wp2_with fail
  refine (LV.out w).mono ?_
  rintro e w1 ⟨a1, n1, c1, rfl, hr1, hn1, hb1⟩
  have S1 : Hid (Row kI w1 (.slice a1 n1 c1) (dg V) ∧ n1 ≤ 19 ∧ Below w.heap.size w w1) := Lib.hid ⟨hr1, hn1, hb1⟩
  clear hr1 hn1 hb1
  go_wp2_with fail
  refine (LN.out w1).mono ?_
  rintro e w2 ⟨a2, n2, c2, rfl, hr2, hn2, hb2⟩
  have S2 : Hid (Row kI w2 (.slice a1 n1 c1) (dg V) ∧ Row kI w2 (.slice a2 n2 c2) (dg N) ∧ n1 ≤ 19 ∧ n2 ≤ 19 ∧ Below w.heap.size w w2) := Lib.hid ⟨S1.out.1.below hb2, hr2, S1.out.2.1, hn2, S1.out.2.2.trans (hb2.mono S1.out.2.2.size)⟩
  clear hr2 hn2 hb2 S1
  go_wp2_with fail
  refine (times_any a1 a2 n1 n2 c1 c2 V N w2 S2.out.1 S2.out.2.1 (by have := S2.out; omega) (by have := S2.out; omega)).mono ?_
  rintro e w3 ⟨a3, n3, c3, rfl, hr3, hb3⟩
  rw [← CE.out.2.1] at hr3
  have S3 : Hid (Row kI w3 (.slice a3 n3 c3) (dg T) ∧ n3 ≤ 38 ∧ Below w.heap.size w w3) := Lib.hid ⟨hr3, row_n hr3 TL.out, S2.out.2.2.2.2.trans (hb3.mono S2.out.2.2.2.2.size)⟩
  clear hr3 hb3 S2
  go_wp2_with fail
  refine (LD.out w3).mono ?_
  rintro e w4 ⟨a4, n4, c4, rfl, hr4, hn4, hb4⟩
  have S4 : Hid (Row kI w4 (.slice a3 n3 c3) (dg T) ∧ Row kI w4 (.slice a4 n4 c4) (dg D) ∧ n3 ≤ 38 ∧ n4 ≤ 19 ∧ Below w.heap.size w w4) := Lib.hid ⟨S3.out.1.below hb4, hr4, S3.out.2.1, hn4, S3.out.2.2.trans (hb4.mono S3.out.2.2.size)⟩
  clear hr4 hn4 hb4 S3
  go_wp2_with fail
  refine (by_any a3 a4 n3 n4 c3 c4 T D w4 S4.out.1 S4.out.2.1 (by have := S4.out; omega) (by have := S4.out; omega) (by have := CE.out.2.2; omega)).mono ?_
  rintro e w5 ⟨a5, n5, c5, a6, n6, c6, rfl, hr5, hr6, hb5⟩
  have S5 : Hid (Row kI w5 (.slice a5 n5 c5) (dg (T / D)) ∧ Row kI w5 (.slice a6 n6 c6) (dg (T % D)) ∧ n5 ≤ 38 ∧ Below w.heap.size w w5) := Lib.hid ⟨hr5, hr6, row_n hr5 QL.out, S4.out.2.2.2.2.trans (hb5.mono S4.out.2.2.2.2.size)⟩
  have N6 : Hid (n6 = (dg (T % D)).length) := Lib.hid (row_len hr6)
  clear hr5 hr6 hb5 S4
  obtain ⟨g8, hg8⟩ : ∃ g, g = w5.heap.size := ⟨_, rfl⟩
  obtain ⟨W6, hW6⟩ : ∃ W, W = (w5.alloc (.cells #[.slice a5 n5 c5] 59)).alloc (.cells #[.slice a6 n6 c6] 59) := ⟨_, rfl⟩
  have F6 : Hid (W6.heap[g8]? = some (.cells #[.slice a5 n5 c5] 59 (0, 0)) ∧ W6.heap[g8 + 1]? = some (.cells #[.slice a6 n6 c6] 59 (0, 0)) ∧ Row kI W6 (.slice a5 n5 c5) (dg (T / D)) ∧ Below w.heap.size w W6 ∧ w.heap.size ≤ g8) := Lib.hid (by
    have q : Below w5.heap.size w5 W6 := by rw [hW6]; exact ((Below.refl _ w5).alloc (Nat.le_refl _) _).alloc (by simp) _
    refine ⟨?_, ?_, S5.out.1.below q, S5.out.2.2.2.trans (q.mono S5.out.2.2.2.size), by rw [hg8]; exact S5.out.2.2.2.size⟩
    · rw [hW6, hg8, Below.heap_alloc _ _ _ (by simp), heap_alloc_new]
    · rw [hW6, hg8]
      have q := heap_alloc_new (w5.alloc (.cells #[.slice a5 n5 c5] 59)) (.cells #[.slice a6 n6 c6] 59)
      simpa using q)
  have EW := Lib.hid (And.intro hW6 hg8)
  clear hW6 hg8
  rcases Nat.eq_zero_or_pos (T % D) with hz | hz
  · have n60 : n6 = 0 := by rw [N6.out]; exact dg_none hz
    subst n60
    have C0 : Hid (CC = T / D) := Lib.hid (by rw [CE.out.1]; unfold ceilT; rw [if_neg (by omega)]; omega)
    have Q6 : Hid (W6.heap[g8]? = some (.cells #[.slice a5 n5 c5] 59 (0, 0)) ∧ Row kI W6 (.slice a5 n5 c5) (dg CC) ∧ Below w.heap.size w W6) := Lib.hid ⟨F6.out.1, by rw [C0.out]; exact F6.out.2.2.1, F6.out.2.2.2.1⟩
    have u8 : ((w5.alloc (.cells #[.slice a5 n5 c5] 59)).alloc (.cells #[.slice a6 0 c6] 59)).cell? ⟨w5.heap.size, 0, none⟩ = some (.slice a5 n5 c5) := by rw [← EW.out.1, ← EW.out.2]; exact cell1 F6.out.1
    clear hz
    have VN := Lib.hid (row_n Q6.out.2.1 CL.out)
    rcases HX.out with ⟨h, hx, hE⟩ | ⟨h, hx, hE⟩
    · subst hx hE
      have VY := Lib.hid (value_yes _ _ _ CC W6 Q6.out.2.1 (Nat.le_trans VN.out (by decide)) h)
      go_wp2_with fail
      rw [← EW.out.1]
      refine VY.out.mono ?_
      rintro e w9 ⟨rfl, hb9⟩
      have B9 : Hid (Below w.heap.size w w9) := Lib.hid (Q6.out.2.2.trans (hb9.mono Q6.out.2.2.size))
      clear hb9
      go_wp2_with fail
      go_ret2
      exact ⟨rfl, B9.out⟩
    · subst hx hE
      have VY := Lib.hid (value_no _ _ _ CC W6 Q6.out.2.1 h)
      go_wp2_with fail
      rw [← EW.out.1]
      refine VY.out.mono ?_
      rintro e w9 ⟨rfl, hb9⟩
      have B9 : Hid (Below w.heap.size w w9) := Lib.hid (Q6.out.2.2.trans (hb9.mono Q6.out.2.2.size))
      clear hb9
      go_wp2_with fail
      go_ret2
      exact ⟨rfl, B9.out⟩
  · have n61 : 0 < n6 := by rw [N6.out]; exact dg_some hz
    have g6 : decide ((n6 : Int) > 0) = true := decide_eq_true (by omega)
    have C0 : Hid (CC = T / D + 1) := Lib.hid (by rw [CE.out.1]; unfold ceilT; rw [if_pos hz])
    have q8 : (W6.drew).cell? ⟨g8, 0, none⟩ = some (.slice a5 n5 c5) := cell1 F6.out.1
    have GL : Hid (g8 < W6.heap.size) := Lib.hid (block_lt_of_cell (cell1 F6.out.1))
    clear hz
    go_wp2_with fail
    rw [← EW.out.1, ← EW.out.2]
    clear EW
    go_region_with (first | (go_at_call 37; refine (L1.out _).mono ?_; rintro e w7 ⟨a7, n7, c7, rfl, hr7, hn7, hb7⟩; have S7 : Hid (Below W6.heap.size W6 w7 ∧ Row kI w7 (.slice a7 n7 c7) (dg 1) ∧ n7 ≤ 19) := Lib.hid ⟨(Below.refl W6.heap.size W6).drew.trans hb7, hr7, hn7⟩; have p7 : w7.cell? ⟨g8, 0, none⟩ = some (.slice a5 n5 c5) := cell1 ((S7.out.1.block _ GL.out).trans F6.out.1); clear hr7 hb7 hn7) | (go_at_call 47; refine (plus_any a5 a7 n5 n7 c5 c7 (T / D) 1 _ (F6.out.2.2.1.below S7.out.1) S7.out.2.1 (by have := S5.out; omega) (by have := S7.out; omega)).mono ?_; rintro e w8 ⟨a8, n8, c8, rfl, hr8, hb8⟩; have S8 : Hid (Below W6.heap.size W6 w8 ∧ Row kI w8 (.slice a8 n8 c8) (dg CC)) := Lib.hid ⟨S7.out.1.trans (hb8.mono S7.out.1.size), by rw [C0.out]; exact hr8⟩; have H8 : Hid (w8.heap[g8]? = some (.cells #[.slice a5 n5 c5] 59 (0, 0))) := Lib.hid ((S8.out.1.block _ GL.out).trans F6.out.1); have p8 := cell1 H8.out; have f8 := frz H8.out 0; clear hr8 hb8))
    all_goals
      obtain ⟨W8, hW8⟩ : ∃ W, W = w8.setCell ⟨g8, 0, none⟩ (.slice a8 n8 c8) := ⟨_, rfl⟩
      have Q6 : Hid (W8.heap[g8]? = some (.cells #[.slice a8 n8 c8] 59 (0, 0)) ∧ Row kI W8 (.slice a8 n8 c8) (dg CC) ∧ Below w.heap.size w W8) := Lib.hid (by
        rw [hW8]
        exact ⟨set1 H8.out _, row_set H8.out S8.out.2 _, (F6.out.2.2.2.1.trans (S8.out.1.mono F6.out.2.2.2.1.size)).setCell (p := ⟨g8, 0, none⟩) F6.out.2.2.2.2 _⟩)
      rw [← hW8]
      clear hW8 p8 f8
      have p8 := cell1 Q6.out.1
      have VN := Lib.hid (row_n Q6.out.2.1 CL.out)
      rcases HX.out with ⟨h, hx, hE⟩ | ⟨h, hx, hE⟩
      · subst hx hE
        have VY := Lib.hid (value_yes _ _ _ CC W8 Q6.out.2.1 (Nat.le_trans VN.out (by decide)) h)
        go_wp2_with fail
        refine VY.out.mono ?_
        rintro e w9 ⟨rfl, hb9⟩
        have B9 : Hid (Below w.heap.size w w9) := Lib.hid (Q6.out.2.2.trans (hb9.mono Q6.out.2.2.size))
        clear hb9 p8
        go_wp2_with fail
        go_ret2
        exact ⟨rfl, B9.out⟩
      · subst hx hE
        have VY := Lib.hid (value_no _ _ _ CC W8 Q6.out.2.1 h)
        go_wp2_with fail
        refine VY.out.mono ?_
        rintro e w9 ⟨rfl, hb9⟩
        have B9 : Hid (Below w.heap.size w w9) := Lib.hid (Q6.out.2.2.trans (hb9.mono Q6.out.2.2.size))
        clear hb9 p8
        go_wp2_with fail
        go_ret2
        exact ⟨rfl, B9.out⟩
theorem refScale_bad (v n d : Int) (h : v < 0 ∨ n < 0 ∨ d < 1) (w : World) :
    Calls Tryd.prog 28 #[.int .i64 v, .int .i64 n, .int .i64 d] w fun e w' => e = .returned (.tuple #[.int .i64 0, .int .i64 1]) ∧ Below w.heap.size w w' := by
  by_cases h1 : v < 0
  · have g1 : decide (v < 0) = true := decide_eq_true h1
    go_enter Tryd.func28, Tryd.ntmps28
    go_wp2_with fail
    go_ret2
    exact ⟨rfl, Below.refl _ _⟩
  · have g1 : decide (v < 0) = false := decide_eq_false h1
    by_cases h2 : n < 0
    · have g2 : decide (n < 0) = true := decide_eq_true h2
      go_enter Tryd.func28, Tryd.ntmps28
      go_wp2_with fail
      go_ret2
      exact ⟨rfl, Below.refl _ _⟩
    · have g2 : decide (n < 0) = false := decide_eq_false h2
      have g3 : decide (d < 1) = true := decide_eq_true (by omega)
      go_enter Tryd.func28, Tryd.ntmps28
      go_wp2_with fail
      go_ret2
      exact ⟨rfl, Below.refl _ _⟩
theorem refScale_any (v n d : Int) (hv : v ≤ 9223372036854775807) (hn : n ≤ 9223372036854775807) (hd : d ≤ 9223372036854775807) (w : World) :
    Calls Tryd.prog 28 #[.int .i64 v, .int .i64 n, .int .i64 d] w fun e w' => e = .returned (.tuple #[.int .i64 (scaleR v n d).1, .int .i64 (scaleR v n d).2]) ∧ Below w.heap.size w w' := by
  by_cases h : v < 0 ∨ n < 0 ∨ d < 1
  · have e : scaleR v n d = (0, 1) := by unfold scaleR; rw [if_pos h]
    rw [e]; exact refScale_bad v n d h w
  · obtain ⟨V, rfl⟩ : ∃ A : Nat, v = A := ⟨v.toNat, by omega⟩
    obtain ⟨N, rfl⟩ : ∃ A : Nat, n = A := ⟨n.toNat, by omega⟩
    obtain ⟨D, rfl⟩ : ∃ A : Nat, d = A := ⟨d.toNat, by omega⟩
    have e : scaleR V N D = timesT (V * N) D := by unfold scaleR; rw [if_neg h]; simp
    rw [e]
    refine refScale_good V N D (by omega) (by omega) (by omega) (by omega) (ceilT (V * N) D) _ _ rfl ?_ w
    unfold timesT
    by_cases z : ceilT (V * N) D ≤ 9223372036854775807
    · rw [if_pos z]; exact Or.inl ⟨z, rfl, rfl⟩
    · rw [if_neg z]; exact Or.inr ⟨by omega, rfl, rfl⟩
theorem scale_all (v n d : Int) (hv : v ≤ 9223372036854775807) (hn : n ≤ 9223372036854775807) (hd : d ≤ 9223372036854775807) (w : World) :
    Calls Tryd.prog 27 #[.int .i64 v, .int .i64 n, .int .i64 d] w fun e w' => e = .returned (.tuple #[.int .i64 (scaleR v n d).1, .int .i64 (scaleR v n d).2]) ∧ Below w.heap.size w w' := by
  by_cases h : v < 0 ∨ n < 0 ∨ d < 1
  · have e : scaleR v n d = (0, 1) := by unfold scaleR; rw [if_pos h]
    rw [e]; exact scale_bad v n d h w
  · obtain ⟨V, rfl⟩ : ∃ A : Nat, v = A := ⟨v.toNat, by omega⟩
    obtain ⟨N, rfl⟩ : ∃ A : Nat, n = A := ⟨n.toNat, by omega⟩
    obtain ⟨D, rfl⟩ : ∃ A : Nat, d = A := ⟨d.toNat, by omega⟩
    have e : scaleR V N D = timesT (V * N) D := by unfold scaleR; rw [if_neg h]; simp
    rw [e]
    exact scale_good V N D (by omega) (by omega) (by omega) (by omega) w
end Lg
end Go.Proofs.YtendjedlcobhlaaDoor
