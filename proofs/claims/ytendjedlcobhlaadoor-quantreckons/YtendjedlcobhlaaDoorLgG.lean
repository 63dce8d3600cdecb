/-
  The document's Add, Sub, Scale.
-/
import Derived.Test.YtendjedlcobhlaaDoorLgF
import Derived.Test.YtendjedlcobhlaaDoorLawScales
namespace Go.Proofs.YtendjedlcobhlaaDoor
open Go.RowKit Go.Lib
open Go.Sort (grow)
namespace Lg
theorem row_n {w : World} {a : Option Addr} {n c x : Nat} (h : Row kI w (.slice a n c) (dg x)) {k : Nat} (hx : x < 10 ^ k) : n ≤ k := by
  obtain ⟨_, _, e, _⟩ := h.len
  simp only [Value.slice.injEq] at e
  rw [e.2.1]; exact dg_len_lt hx
theorem row_len {w : World} {a : Option Addr} {n c x : Nat} (h : Row kI w (.slice a n c) (dg x)) : n = (dg x).length := by
  obtain ⟨_, _, e, _⟩ := h.len
  simp only [Value.slice.injEq] at e
  exact e.2.1
theorem long_n (m : Nat) (w : World) (hm : m ≤ 9223372036854775807) :
    Calls Tryd.prog 37 #[.int .i64 (m : Int)] w fun e w' => ∃ a n c, e = .returned (.agg #[.slice a n c]) ∧ Row kI w' (.slice a n c) (dg m) ∧ n ≤ 19 ∧ Below w.heap.size w w' := by
  refine (long_any m w hm).mono ?_
  rintro e w' ⟨a, n, c, h1, h2, h3⟩
  exact ⟨a, n, c, h1, h2, row_n h2 (by omega), h3⟩
/-- What the sum, the difference, the scaled number are. -/
def addR (a b : Int) : Int × Int := if a < 0 ∨ b < 0 then (0, 1) else if a + b ≤ 9223372036854775807 then (a + b, 0) else (0, 7)
def subR (a b : Int) : Int × Int := if a < 0 ∨ b < 0 ∨ a < b then (0, 1) else (a - b, 0)
def scaleR (v n d : Int) : Int × Int := if v < 0 ∨ n < 0 ∨ d < 1 then (0, 1) else timesT (v.toNat * n.toNat) d.toNat
set_option maxHeartbeats 4000000 in
set_option maxRecDepth 100000 in
theorem refAdd_yes (A B : Nat) (hA : A ≤ 9223372036854775807) (hB : B ≤ 9223372036854775807) (h : A + B ≤ 9223372036854775807) (w : World) :
    Calls Tryd.prog 24 #[.int .i64 (A : Int), .int .i64 (B : Int)] w fun e w' => e = .returned (.tuple #[.int .i64 ((A : Int) + (B : Int)), .int .i64 0]) ∧ Below w.heap.size w w' := by
  have LA := Lib.hid (fun W => long_n A W hA)
  have LB := Lib.hid (fun W => long_n B W hB)
  have g1 : decide ((A : Int) < 0) = false := decide_eq_false (by omega)
  have g2 : decide ((B : Int) < 0) = false := decide_eq_false (by omega)
  have HS : Hid (A + B < 10 ^ 20) := Lib.hid (by omega)
  have HH := Lib.hid h
  clear hA hB h
  go_enter Tryd.func24, Tryd.ntmps24
  go_wp2_with fail
  refine (LA.out w).mono ?_
  rintro e w1 ⟨a1, n1, c1, rfl, hr1, hn1, hb1⟩
  have S1 : Hid (Row kI w1 (.slice a1 n1 c1) (dg A) ∧ n1 ≤ 19 ∧ Below w.heap.size w w1) := Lib.hid ⟨hr1, hn1, hb1⟩
  clear hr1 hn1 hb1
  go_wp2_with fail
  refine (LB.out w1).mono ?_
  rintro e w2 ⟨a2, n2, c2, rfl, hr2, hn2, hb2⟩
  have S2 : Hid (Row kI w2 (.slice a1 n1 c1) (dg A) ∧ Row kI w2 (.slice a2 n2 c2) (dg B) ∧ n1 ≤ 19 ∧ n2 ≤ 19 ∧ Below w.heap.size w w2) := Lib.hid ⟨S1.out.1.below hb2, hr2, S1.out.2.1, hn2, S1.out.2.2.trans (hb2.mono S1.out.2.2.size)⟩
  clear hr2 hn2 hb2
  go_wp2_with fail
  refine (plus_any a1 a2 n1 n2 c1 c2 A B w2 S2.out.1 S2.out.2.1 (by have := S2.out; omega) (by have := S2.out; omega)).mono ?_
  rintro e w3 ⟨a3, n3, c3, rfl, hr3, hb3⟩
  have S3 : Hid (Row kI w3 (.slice a3 n3 c3) (dg (A + B)) ∧ n3 ≤ 1000 ∧ Below w.heap.size w w3) := Lib.hid ⟨hr3, Nat.le_trans (row_n hr3 HS.out) (by decide), S2.out.2.2.2.2.trans (hb3.mono S2.out.2.2.2.2.size)⟩
  clear hr3 hb3
  have VY := Lib.hid (value_yes a3 n3 c3 (A + B) w3 S3.out.1 S3.out.2.1 HH.out)
  have ec : (((A + B : Nat)) : Int) = (A : Int) + (B : Int) := Int.natCast_add A B
  rw [ec] at VY
  clear ec
  go_wp2_with fail
  refine VY.out.mono ?_
  rintro e w4 ⟨rfl, hb4⟩
  have B4 := Lib.hid hb4
  clear hb4
  go_wp2_with fail
  go_ret2
  exact ⟨rfl, S3.out.2.2.trans (B4.out.mono S3.out.2.2.size)⟩
set_option maxHeartbeats 4000000 in
set_option maxRecDepth 100000 in
theorem refAdd_no (A B : Nat) (hA : A ≤ 9223372036854775807) (hB : B ≤ 9223372036854775807) (h : ¬ A + B ≤ 9223372036854775807) (w : World) :
    Calls Tryd.prog 24 #[.int .i64 (A : Int), .int .i64 (B : Int)] w fun e w' => e = .returned (.tuple #[.int .i64 0, .int .i64 7]) ∧ Below w.heap.size w w' := by
  have LA := Lib.hid (fun W => long_n A W hA)
  have LB := Lib.hid (fun W => long_n B W hB)
  have g1 : decide ((A : Int) < 0) = false := decide_eq_false (by omega)
  have g2 : decide ((B : Int) < 0) = false := decide_eq_false (by omega)
  have HS : Hid (A + B < 10 ^ 20) := Lib.hid (by omega)
  have HH := Lib.hid h
  clear hA hB h
  go_enter Tryd.func24, Tryd.ntmps24
  go_wp2_with fail
  refine (LA.out w).mono ?_
  rintro e w1 ⟨a1, n1, c1, rfl, hr1, hn1, hb1⟩
  have S1 : Hid (Row kI w1 (.slice a1 n1 c1) (dg A) ∧ n1 ≤ 19 ∧ Below w.heap.size w w1) := Lib.hid ⟨hr1, hn1, hb1⟩
  clear hr1 hn1 hb1
  go_wp2_with fail
  refine (LB.out w1).mono ?_
  rintro e w2 ⟨a2, n2, c2, rfl, hr2, hn2, hb2⟩
  have S2 : Hid (Row kI w2 (.slice a1 n1 c1) (dg A) ∧ Row kI w2 (.slice a2 n2 c2) (dg B) ∧ n1 ≤ 19 ∧ n2 ≤ 19 ∧ Below w.heap.size w w2) := Lib.hid ⟨S1.out.1.below hb2, hr2, S1.out.2.1, hn2, S1.out.2.2.trans (hb2.mono S1.out.2.2.size)⟩
  clear hr2 hn2 hb2
  go_wp2_with fail
  refine (plus_any a1 a2 n1 n2 c1 c2 A B w2 S2.out.1 S2.out.2.1 (by have := S2.out; omega) (by have := S2.out; omega)).mono ?_
  rintro e w3 ⟨a3, n3, c3, rfl, hr3, hb3⟩
  have S3 : Hid (Row kI w3 (.slice a3 n3 c3) (dg (A + B)) ∧ n3 ≤ 1000 ∧ Below w.heap.size w w3) := Lib.hid ⟨hr3, Nat.le_trans (row_n hr3 HS.out) (by decide), S2.out.2.2.2.2.trans (hb3.mono S2.out.2.2.2.2.size)⟩
  clear hr3 hb3
  have VY := Lib.hid (value_no a3 n3 c3 (A + B) w3 S3.out.1 (by have := HH.out; omega))
  go_wp2_with fail
  refine VY.out.mono ?_
  rintro e w4 ⟨rfl, hb4⟩
  have B4 := Lib.hid hb4
  clear hb4
  go_wp2_with fail
  go_ret2
  exact ⟨rfl, S3.out.2.2.trans (B4.out.mono S3.out.2.2.size)⟩
set_option maxRecDepth 100000 in
theorem refAdd_bad (a b : Int) (h : a < 0 ∨ b < 0) (w : World) :
    Calls Tryd.prog 24 #[.int .i64 a, .int .i64 b] w fun e w' => e = .returned (.tuple #[.int .i64 0, .int .i64 1]) ∧ Below w.heap.size w w' := by
  by_cases h1 : a < 0
  · have g1 : decide (a < 0) = true := decide_eq_true h1
    go_enter Tryd.func24, Tryd.ntmps24
    go_wp2_with fail
    go_ret2
    exact ⟨rfl, Below.refl _ _⟩
  · have g1 : decide (a < 0) = false := decide_eq_false h1
    have g2 : decide (b < 0) = true := decide_eq_true (by omega)
    go_enter Tryd.func24, Tryd.ntmps24
    go_wp2_with fail
    go_ret2
    exact ⟨rfl, Below.refl _ _⟩
theorem refAdd_any (a b : Int) (ha : a ≤ 9223372036854775807) (hb : b ≤ 9223372036854775807) (w : World) :
    Calls Tryd.prog 24 #[.int .i64 a, .int .i64 b] w fun e w' => e = .returned (.tuple #[.int .i64 (addR a b).1, .int .i64 (addR a b).2]) ∧ Below w.heap.size w w' := by
  by_cases h : a < 0 ∨ b < 0
  · have e : addR a b = (0, 1) := by unfold addR; rw [if_pos h]
    rw [e]; exact refAdd_bad a b h w
  · obtain ⟨A, rfl⟩ : ∃ A : Nat, a = A := ⟨a.toNat, by omega⟩
    obtain ⟨B, rfl⟩ : ∃ B : Nat, b = B := ⟨b.toNat, by omega⟩
    by_cases z : A + B ≤ 9223372036854775807
    · have e : addR A B = ((A : Int) + (B : Int), 0) := by
        unfold addR
        rw [if_neg h, if_pos (show (A : Int) + B ≤ 9223372036854775807 by omega)]
      rw [e]; exact refAdd_yes A B (by omega) (by omega) z w
    · have e : addR A B = (0, 7) := by
        unfold addR
        rw [if_neg h, if_neg (show ¬ (A : Int) + B ≤ 9223372036854775807 by omega)]
      rw [e]; exact refAdd_no A B (by omega) (by omega) z w
set_option maxRecDepth 100000 in
theorem add_any (a b : Int) (ha : a ≤ 9223372036854775807) (hb : b ≤ 9223372036854775807) (w : World) :
    Calls Tryd.prog 23 #[.int .i64 a, .int .i64 b] w fun e w' => e = .returned (.tuple #[.int .i64 (addR a b).1, .int .i64 (addR a b).2]) ∧ Below w.heap.size w w' := by
  by_cases h1 : a < 0
  · have e : addR a b = (0, 1) := by unfold addR; rw [if_pos (Or.inl h1)]
    rw [e]
    have g1 : decide (a < 0) = true := decide_eq_true h1
    clear e
    go_enter Tryd.func23, Tryd.ntmps23
    go_wp2_with fail
    go_ret2
    exact ⟨rfl, Below.refl _ _⟩
  · have g1 : decide (a < 0) = false := decide_eq_false h1
    by_cases h2 : b < 0
    · have e : addR a b = (0, 1) := by unfold addR; rw [if_pos (Or.inr h2)]
      rw [e]
      have g2 : decide (b < 0) = true := decide_eq_true h2
      clear e
      go_enter Tryd.func23, Tryd.ntmps23
      go_wp2_with fail
      go_ret2
      exact ⟨rfl, Below.refl _ _⟩
    · have g2 : decide (b < 0) = false := decide_eq_false h2
      by_cases h3 : a + b ≤ 9223372036854775807
      · have e : addR a b = (a + b, 0) := by unfold addR; rw [if_neg (by omega), if_pos h3]
        rw [e]
        have g3 : decide (a > 9223372036854775807 - b) = false := decide_eq_false (by omega)
        clear e
        go_enter Tryd.func23, Tryd.ntmps23
        go_wp2_with fail
        go_ret2
        exact ⟨rfl, Below.refl _ _⟩
      · have e : addR a b = (0, 7) := by unfold addR; rw [if_neg (by omega), if_neg h3]
        rw [e]
        have g3 : decide (a > 9223372036854775807 - b) = true := decide_eq_true (by omega)
        clear e
        go_enter Tryd.func23, Tryd.ntmps23
        go_wp2_with fail
        go_ret2
        exact ⟨rfl, Below.refl _ _⟩
set_option maxRecDepth 100000 in
theorem sub_all (a b : Int) (ha : a ≤ 9223372036854775807) (w : World) :
    Calls Tryd.prog 25 #[.int .i64 a, .int .i64 b] w fun e w' => e = .returned (.tuple #[.int .i64 (subR a b).1, .int .i64 (subR a b).2]) ∧ Below w.heap.size w w' := by
  by_cases h1 : b < 0
  · have e : subR a b = (0, 1) := by unfold subR; rw [if_pos (by omega)]
    rw [e]
    have g1 : decide (b < 0) = true := decide_eq_true h1
    clear e
    go_enter Tryd.func25, Tryd.ntmps25
    go_wp2_with fail
    go_ret2
    exact ⟨rfl, Below.refl _ _⟩
  · have g1 : decide (b < 0) = false := decide_eq_false h1
    by_cases h2 : a < b
    · have e : subR a b = (0, 1) := by unfold subR; rw [if_pos (by omega)]
      rw [e]
      have g2 : decide (a < b) = true := decide_eq_true h2
      clear e
      go_enter Tryd.func25, Tryd.ntmps25
      go_wp2_with fail
      go_ret2
      exact ⟨rfl, Below.refl _ _⟩
    · have e : subR a b = (a - b, 0) := by unfold subR; rw [if_neg (by omega)]
      rw [e]
      have g2 : decide (a < b) = false := decide_eq_false h2
      have W : wrap64 (a - b) = a - b := by unfold wrap64; omega
      clear e
      go_enter Tryd.func25, Tryd.ntmps25
      go_wp2_with fail
      go_ret2
      exact ⟨by first | rfl | (rw [W]; rfl) | simp [W], Below.refl _ _⟩
set_option maxRecDepth 100000 in
theorem refSub_any (a b : Int) (ha : a ≤ 9223372036854775807) (w : World) :
    Calls Tryd.prog 26 #[.int .i64 a, .int .i64 b] w fun e w' => e = .returned (.tuple #[.int .i64 (subR a b).1, .int .i64 (subR a b).2]) ∧ Below w.heap.size w w' := by
  by_cases h0 : a < 0
  · have e : subR a b = (0, 1) := by unfold subR; rw [if_pos (by omega)]
    rw [e]
    have g1 : decide (a < 0) = true := decide_eq_true h0
    clear e
    go_enter Tryd.func26, Tryd.ntmps26
    go_wp2_with fail
    go_ret2
    exact ⟨rfl, Below.refl _ _⟩
  · have g0 : decide (a < 0) = false := decide_eq_false h0
    by_cases h1 : b < 0
    · have e : subR a b = (0, 1) := by unfold subR; rw [if_pos (by omega)]
      rw [e]
      have g1 : decide (b < 0) = true := decide_eq_true h1
      clear e
      go_enter Tryd.func26, Tryd.ntmps26
      go_wp2_with fail
      go_ret2
      exact ⟨rfl, Below.refl _ _⟩
    · have g1 : decide (b < 0) = false := decide_eq_false h1
      by_cases h2 : a < b
      · have e : subR a b = (0, 1) := by unfold subR; rw [if_pos (by omega)]
        rw [e]
        have g2 : decide (a < b) = true := decide_eq_true h2
        clear e
        go_enter Tryd.func26, Tryd.ntmps26
        go_wp2_with fail
        go_ret2
        exact ⟨rfl, Below.refl _ _⟩
      · have e : subR a b = (a - b, 0) := by unfold subR; rw [if_neg (by omega)]
        rw [e]
        have g2 : decide (a < b) = false := decide_eq_false h2
        have W : wrap64 (a - b) = a - b := by unfold wrap64; omega
        clear e
        go_enter Tryd.func26, Tryd.ntmps26
        go_wp2_with fail
        go_ret2
        exact ⟨by first | rfl | (rw [W]; rfl) | simp [W], Below.refl _ _⟩
end Lg
end Go.Proofs.YtendjedlcobhlaaDoor
