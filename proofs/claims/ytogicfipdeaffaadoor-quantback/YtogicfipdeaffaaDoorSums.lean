/-
  THE WALK of QuantSums, given the law known.
-/
import Derived.Test.YtogicfipdeaffaaDoorPrint
namespace Go.Proofs.YtogicfipdeaffaaDoor
open Go.RowKit Go.Lib
/-- The tables that the roads read. -/
def Glob (w : World) : Prop := Suf w ∧ TabIs Tryd.prog w "internal/strconv.uint64pow10" .u64 pow10Tab
/-- What is owed: the laws examples stand. -/
def KnownOk : Prop := ∀ w, Glob w → Calls Tryd.prog 9 #[] w fun e w' => e = .returned (.bool true) ∧ Below w.heap.size w w'
set_option maxHeartbeats 8000000 in
set_option maxRecDepth 100000 in
theorem quantSums_walk (hk : KnownOk) (a b : Int) (w : World) (G : Glob w) (ha : -9223372036854775808 ≤ a ∧ a < 9223372036854775808) (hb : -9223372036854775808 ≤ b ∧ b < 9223372036854775808) :
    Calls Tryd.prog 7 #[.int .i64 a, .int .i64 b] w fun e w' => e = .returned (.bool true) ∧ Below w.heap.size w w' := by
  have K := Lib.hid (hk w G)
  clear hk G
  obtain ⟨a1, a2⟩ := ha
  obtain ⟨b1, b2⟩ := hb
  go_enter Tryd.func7, Tryd.ntmps7
  go_wp2_with fail
  refine K.out.mono ?_
  rintro e w1 ⟨rfl, hb⟩
  have B := Lib.hid hb
  clear hb K
  by_cases ha0 : a < 0
  · by_cases hb0 : b < 0
    · go_wp2
      all_goals
        go_ret
        exact ⟨rfl, B.out⟩
    · have hb0' : decide (b < 0) = false := by rw [decide_eq_false_iff_not]; exact hb0
      have hab : a < b := by omega
      go_wp2
      all_goals
        go_ret
        exact ⟨rfl, B.out⟩
  · have ha0' : decide (a < 0) = false := by rw [decide_eq_false_iff_not]; exact ha0
    by_cases hb0 : b < 0
    · go_wp2
      all_goals
        go_ret
        exact ⟨rfl, B.out⟩
    · have hb0' : decide (b < 0) = false := by rw [decide_eq_false_iff_not]; exact hb0
      by_cases ho : a > 9223372036854775807 - b
      · have ho' : b > 9223372036854775807 - a := by omega
        go_wp2
        all_goals
          go_ret
          exact ⟨rfl, B.out⟩
      · have ho' : decide (a > 9223372036854775807 - b) = false := by rw [decide_eq_false_iff_not]; exact ho
        have ho2 : ¬ (b > 9223372036854775807 - a) := by omega
        by_cases hz : b = 0
        · subst hz
          go_wp2
          all_goals
            go_ret
            exact ⟨rfl, B.out⟩
        · have e1 : a < a + b := by omega
          have e2 : ¬ (a + b < a) := by omega
          have e3 : (b == 0) = false := by rw [beq_eq_false_iff_ne]; exact hz
          have e4 : (a + b == b + a) = true := by rw [beq_iff_eq]; omega
          have e5 : (a + b - a == b) = true := by rw [beq_iff_eq]; omega
          go_wp2
          all_goals
            go_ret
            exact ⟨rfl, B.out⟩
end Go.Proofs.YtogicfipdeaffaaDoor
