/-
  The document's Print: below 0, of thousandths, of 0.
-/
import Derived.Test.YtjegjpdeclgegaaDoorLgT
import Derived.Test.YtjegjpdeclgegaaDoorLgG
import Derived.Test.YtjegjpdeclgegaaDoorLgQ
namespace Go.Proofs.YtjegjpdeclgegaaDoor
open Go.RowKit Go.Lib
open Go.Sort (grow)
namespace Lg
set_option maxRecDepth 100000 in
theorem refPrint_neg (v : Int) (hv : v < 0) (w : World) :
    Calls Tryd.prog 7 #[.int .i64 v] w fun e w' => e = .returned (.string ⟨#[]⟩) ∧ Below w.heap.size w w' := by
  have g1 : decide (v < 0) = true := decide_eq_true hv
  go_enter Tryd.func7, Tryd.ntmps7
  go_wp2_with fail
  go_ret
  exact ⟨rfl, Below.refl _ _⟩
set_option maxRecDepth 100000 in
theorem refPrint_zero (w : World) :
    Calls Tryd.prog 7 #[.int .i64 0] w fun e w' => e = .returned (.string ⟨#[48]⟩) ∧ Below w.heap.size w w' := by
  go_enter Tryd.func7, Tryd.ntmps7
  go_wp2_with fail
  go_ret
  exact ⟨rfl, Below.refl _ _⟩
theorem digs_max : nDigits 9223372036854775807 ≤ 20 := by
  rw [nDigits_unique 18 9223372036854775807 (by decide) (by decide)]; decide
set_option maxHeartbeats 4000000 in
set_option maxRecDepth 100000 in
theorem refPrint_milli (v : Nat) (hv : v ≤ 9223372036854775807) (hm : v % 1000 ≠ 0) (w : World) :
    Calls Tryd.prog 7 #[.int .i64 (v : Int)] w fun e w' => e = .returned (.string (dig v ++ ⟨#[109]⟩)) ∧ Below w.heap.size w w' := by
  have LV := Lib.hid (long_n v w hv)
  obtain ⟨r, hr⟩ : ∃ r : Int, r = (v : Int).tmod 1000 := ⟨_, rfl⟩
  have e1 : (v : Int).tmod 1000 = r := hr.symm
  have hr2 : r = ((v % 1000 : Nat) : Int) := by rw [hr, Int.tmod_eq_emod_of_nonneg (by omega)]; omega
  have g0 : decide ((v : Int) < 0) = false := decide_eq_false (by omega)
  have g1 : (r == 0) = false := by rw [beq_eq_false_iff_ne, hr2]; omega
  have g2 : (r != 0) = true := by rw [bne_iff_ne, hr2]; omega
  obtain ⟨D, hD⟩ : ∃ D, D = dig v := ⟨_, rfl⟩
  rw [← hD]
  have DS : D.size + 1 ≤ 9223372036854775807 := by
    have q : nDigits v ≤ 20 := by
      have := nd_mono 9223372036854775807 v hv
      have e : nDigits 9223372036854775807 ≤ 20 := digs_max
      omega
    rw [hD, dig_size, decDigits_length]; omega
  have hs1 : ¬ (D.size + 1 > 9223372036854775807) := by omega
  have HD := Lib.hid hD
  clear hr hr2 hD hv hm
  go_enter Tryd.func7, Tryd.ntmps7
  go_wp2_with fail
  refine LV.out.mono ?_
  rintro e w1 ⟨a1, n1, c1, rfl, h1, h2, h3⟩
  have TX := Lib.hid (text_any a1 n1 c1 v w1 h1 (by omega))
  have B1 := Lib.hid h3
  rw [← HD.out] at TX
  clear h1 h2 h3
  go_wp2_with fail
  refine TX.out.mono ?_
  rintro e w2 ⟨rfl, hb⟩
  have B2 := Lib.hid (B1.out.trans (hb.mono B1.out.size))
  clear hb
  go_wp2_with fail
  go_ret
  exact ⟨rfl, B2.out⟩
end Lg
end Go.Proofs.YtjegjpdeclgegaaDoor
