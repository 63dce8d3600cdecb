/-
  Sub; slices.Clone of every list of amounts (for Minus).
-/
import Derived.Test.YtendjedlcobhlaaDoorNrW
namespace Go.Proofs.YtendjedlcobhlaaDoor
open Go.RowKit Go.Lib
set_option maxRecDepth 100000 in
theorem sub_yes (x y : Int) (hy : 0 ≤ y) (h : y ≤ x) (hx : x ≤ 9223372036854775807) (w : World) : Calls Tryd.prog 25 #[.int .i64 x, .int .i64 y] w fun e w' => e = .returned (.tuple #[.int .i64 (x - y), .int .i64 0]) ∧ w' = w := by
  have gx : decide (y < 0) = false := decide_eq_false (by omega)
  have gy : decide (x < y) = false := decide_eq_false (by omega)
  have W : Hid (wrap64 (x - y) = x - y) := Lib.hid (by unfold wrap64; omega)
  clear hx hy h
  go_enter Tryd.func25, Tryd.ntmps25
  go_wp2_with fail
  go_ret2
  exact ⟨by first | rfl | (rw [W.out]; rfl) | (simp [W.out]), rfl⟩
set_option maxRecDepth 100000 in
theorem sub_no (x y : Int) (hy : 0 ≤ y) (h : x < y) (w : World) : Calls Tryd.prog 25 #[.int .i64 x, .int .i64 y] w fun e w' => ∃ c : Int, e = .returned (.tuple #[.int .i64 0, .int .i64 c]) ∧ c ≠ 0 ∧ w' = w := by
  have gx : decide (y < 0) = false := decide_eq_false (by omega)
  have gy : decide (x < y) = true := decide_eq_true (by omega)
  go_enter Tryd.func25, Tryd.ntmps25
  go_wp2_with fail
  go_ret2
  exact ⟨_, rfl, by decide, rfl⟩
set_option maxRecDepth 100000 in
theorem clone_row (v : Value) (l : List Am) (w : World) (hv : Row kAm w v l) (hpl : ∀ ad n c, v = .slice (some ad) n c → ∃ b off, ad = ⟨b, off, none⟩) (hz : l.length * 24 ≤ 140737488355328) :
    Calls Tryd.prog 30 #[v] w fun e w' => ∃ a n c, e = .returned (.slice a n c) ∧ OwnR kAm w.heap.size w' (.slice a n c) l ∧ Below w.heap.size w w' := by
  have V := hv
  obtain ⟨va, vc, rfl, hlc, hcm⟩ := hv.len
  cases va with
  | none =>
    have l0 : l = [] := by
      obtain ⟨a, cap, e, h1, h2, h0, _⟩ := hv
      simp only [Value.slice.injEq] at e
      have z : cap = 0 := h0 e.1.symm
      exact List.length_eq_zero_iff.1 (by omega)
    subst l0
    refine (Tryd.slices_Clone_nil 0 vc w).mono ?_
    rintro e w2 ⟨rfl, rfl⟩
    exact ⟨none, 0, 0, rfl, OwnR.nil _ _ _, Below.refl _ _⟩
  | some ad =>
    obtain ⟨b, off, rfl⟩ := hpl ad _ _ rfl
    obtain ⟨i0, hi, hz0, hz1, hz2⟩ := amt_info
    refine (Tryd.slices_Clone i0 _ 2 24 hi hz0 hz1 hz2 rfl (by decide) amt_size b off l.length vc (cellsR kAm l) w (by rw [cellsR_length okAm]; rfl) (by unfold maxLen; omega) hz (row_cells V) (cellsR_one okAm l)).mono ?_
    rintro e w2 ⟨v', rfl, hown, hne, hb2⟩
    have hO : OwnR kAm w.heap.size w2 v' l := hown
    obtain ⟨a', c', e'⟩ := hO.slice
    subst e'
    exact ⟨a', _, c', rfl, hO, hb2⟩
end Go.Proofs.YtendjedlcobhlaaDoor
