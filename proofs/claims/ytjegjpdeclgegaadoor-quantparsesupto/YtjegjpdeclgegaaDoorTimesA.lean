/-
  Div64 and timesBy, whole.
-/
import Derived.Test.YtjegjpdeclgegaaDoorDivG
namespace Go.Proofs.YtjegjpdeclgegaaDoor
open Go.RowKit Go.Lib
set_option maxHeartbeats 4000000 in
set_option maxRecDepth 100000 in
theorem div_zero (lo y q r : Nat) (hy : 0 < y) (hl : lo < 18446744073709551616) (hy2 : y < 18446744073709551616) (hq : q = lo / y) (hr : r = lo % y) (w : World) :
    Calls Tryd.prog 34 #[.int .u64 0, .int .u64 lo, .int .u64 y] w fun e w' => e = .returned (.tuple #[.int .u64 q, .int .u64 r]) ∧ Below w.heap.size w w' := by
  have ql : q ≤ lo := by rw [hq]; exact Nat.div_le_self _ _
  have rl : r < y := by rw [hr]; exact Nat.mod_lt _ hy
  have a1 : ¬ (y : Int) = 0 := by omega
  have a2 : ¬ (y : Int) ≤ 0 := by omega
  have a3 : (0 : Int) < (y : Int) := by omega
  have g1 : (lo : Int) / (y : Int) = (q : Int) := by rw [hq]; push_cast; rfl
  have g2 : (lo : Int) % (y : Int) = (r : Int) := by rw [hr]; push_cast; rfl
  have g3 : (q : Int) < 18446744073709551616 := by omega
  have g4 : (r : Int) < 18446744073709551616 := by omega
  have GG : Aside ((lo : Int) / (y : Int) = (q : Int) ∧ (lo : Int) % (y : Int) = (r : Int) ∧ (q : Int) < 18446744073709551616 ∧ (r : Int) < 18446744073709551616) := ⟨g1, g2, g3, g4⟩
  clear hq hr hl hy hy2 ql rl g1 g2 g3 g4 a2
  go_enter Tryd.func34, Tryd.ntmps34
  go_wp2_with fail
  obtain ⟨g1, g2, g3, g4⟩ := GG.out
  go_quiet (fail)
  go_wp2_with fail
  go_ret2
  exact ⟨by rw [← g2]; rfl, ⟨rfl, rfl, rfl, Nat.le_refl _, fun _ _ => rfl⟩⟩
theorem div_any (hi lo y q r : Nat) (hy : hi < y) (hy2 : y < 18446744073709551616) (hl : lo < 18446744073709551616) (hq : q = (hi * 18446744073709551616 + lo) / y) (hr : r = (hi * 18446744073709551616 + lo) % y) (w : World) :
    Calls Tryd.prog 34 #[.int .u64 hi, .int .u64 lo, .int .u64 y] w fun e w' => e = .returned (.tuple #[.int .u64 q, .int .u64 r]) ∧ Below w.heap.size w w' := by
  rcases Nat.eq_zero_or_pos hi with h | h
  · subst h
    rw [Nat.zero_mul, Nat.zero_add] at hq hr
    exact div_zero lo y q r hy hl hy2 hq hr w
  · exact div_high hi lo y q r h hy hy2 hl hq hr w
/-- What timesBy tells: the least whole number whose d-fold is not below the product. -/
def ceilT (T d : Nat) : Nat := T / d + (if 0 < T % d then 1 else 0)
def timesT (T d : Nat) : Int × Int := if ceilT T d ≤ 9223372036854775807 then (ceilT T d, 0) else (0, 7)
set_option maxHeartbeats 4000000 in
set_option maxRecDepth 100000 in
theorem times_over (a b d : Nat) (ha : a < 18446744073709551616) (hb : b < 18446744073709551616) (hd : d ≤ a * b / 18446744073709551616) (w : World) :
    Calls Tryd.prog 19 #[.int .u64 a, .int .u64 b, .int .u64 d] w fun e w' => e = .returned (.tuple #[.int .i64 0, .int .i64 7]) ∧ Below w.heap.size w w' := by
  have A : Aside (a < 18446744073709551616 ∧ b < 18446744073709551616) := ⟨ha, hb⟩
  obtain ⟨h, hh⟩ : ∃ h, h = a * b / 18446744073709551616 := ⟨_, rfl⟩
  obtain ⟨l, hl⟩ : ∃ l, l = a * b % 18446744073709551616 := ⟨_, rfl⟩
  have HL : Aside (h = a * b / 18446744073709551616 ∧ l = a * b % 18446744073709551616) := ⟨hh, hl⟩
  have g : (d : Int) ≤ (h : Int) := by omega
  clear hh hl ha hb hd
  go_enter Tryd.func19, Tryd.ntmps19
  go_wp2_with fail
  refine (Tryd.bits_Mul64 a b A.out.1 A.out.2 w).mono ?_
  rintro e w1 ⟨rfl, rfl⟩
  rw [← HL.out.1, ← HL.out.2]
  go_wp2_with fail
  go_ret2
  exact ⟨rfl, ⟨rfl, rfl, rfl, Nat.le_refl _, fun _ _ => rfl⟩⟩
end Go.Proofs.YtjegjpdeclgegaaDoor
