/-
  The document's Add, Sub, Scale.
-/
import Derived.Test.YtjegjpdeclgegaaDoorLgF
import Derived.Test.YtjegjpdeclgegaaDoorLawScales
namespace Go.Proofs.YtjegjpdeclgegaaDoor
open Go.RowKit Go.Lib
open Go.Sort (grow)
namespace Lg
theorem row_n {w : World} {a : Option Addr} {n c x : Nat} (h : Row kI w (.slice a n c) (dg x)) {k : Nat} (hx : x < 10 ^ k) : n ≤ k := by
  obtain ⟨_, _, e, _⟩ := h.len
  simp only [Value.slice.injEq] at e
  rw [e.2.1]; exact dg_len_lt hx
theorem row_len {w : World} {a : Option Addr} {n c x : Nat} (h : Row kI w (.slice a n c) (dg x)) : n = (dg x).length := by
  obtain ⟨_, _, e, _⟩ := h.len
  simp only [Value.slice.injEq] at e
  exact e.2.1
theorem long_n (m : Nat) (w : World) (hm : m ≤ 9223372036854775807) :
    Calls Tryd.prog 12 #[.int .i64 (m : Int)] w fun e w' => ∃ a n c, e = .returned (.agg #[.slice a n c]) ∧ Row kI w' (.slice a n c) (dg m) ∧ n ≤ 19 ∧ Below w.heap.size w w' := by
  refine (long_any m w hm).mono ?_
  rintro e w' ⟨a, n, c, h1, h2, h3⟩
  exact ⟨a, n, c, h1, h2, row_n h2 (by omega), h3⟩
/-- What the sum, the difference, the scaled number are. -/
def addR (a b : Int) : Int × Int := if a < 0 ∨ b < 0 then (0, 1) else if a + b ≤ 9223372036854775807 then (a + b, 0) else (0, 7)
def subR (a b : Int) : Int × Int := if a < 0 ∨ b < 0 ∨ a < b then (0, 1) else (a - b, 0)
def scaleR (v n d : Int) : Int × Int := if v < 0 ∨ n < 0 ∨ d < 1 then (0, 1) else timesT (v.toNat * n.toNat) d.toNat
set_option maxRecDepth 100000 in
theorem add_any (a b : Int) (ha : a ≤ 9223372036854775807) (hb : b ≤ 9223372036854775807) (w : World) :
    Calls Tryd.prog 43 #[.int .i64 a, .int .i64 b] w fun e w' => e = .returned (.tuple #[.int .i64 (addR a b).1, .int .i64 (addR a b).2]) ∧ Below w.heap.size w w' := by
  by_cases h1 : a < 0
  · have e : addR a b = (0, 1) := by unfold addR; rw [if_pos (Or.inl h1)]
    rw [e]
    have g1 : decide (a < 0) = true := decide_eq_true h1
    clear e
    go_enter Tryd.func43, Tryd.ntmps43
    go_wp2_with fail
    go_ret2
    exact ⟨rfl, Below.refl _ _⟩
  · have g1 : decide (a < 0) = false := decide_eq_false h1
    by_cases h2 : b < 0
    · have e : addR a b = (0, 1) := by unfold addR; rw [if_pos (Or.inr h2)]
      rw [e]
      have g2 : decide (b < 0) = true := decide_eq_true h2
      clear e
      go_enter Tryd.func43, Tryd.ntmps43
      go_wp2_with fail
      go_ret2
      exact ⟨rfl, Below.refl _ _⟩
    · have g2 : decide (b < 0) = false := decide_eq_false h2
      by_cases h3 : a + b ≤ 9223372036854775807
      · have e : addR a b = (a + b, 0) := by unfold addR; rw [if_neg (by omega), if_pos h3]
        rw [e]
        have g3 : decide (a > 9223372036854775807 - b) = false := decide_eq_false (by omega)
        clear e
        go_enter Tryd.func43, Tryd.ntmps43
        go_wp2_with fail
        go_ret2
        exact ⟨rfl, Below.refl _ _⟩
      · have e : addR a b = (0, 7) := by unfold addR; rw [if_neg (by omega), if_neg h3]
        rw [e]
        have g3 : decide (a > 9223372036854775807 - b) = true := decide_eq_true (by omega)
        clear e
        go_enter Tryd.func43, Tryd.ntmps43
        go_wp2_with fail
        go_ret2
        exact ⟨rfl, Below.refl _ _⟩
end Lg
end Go.Proofs.YtjegjpdeclgegaaDoor
