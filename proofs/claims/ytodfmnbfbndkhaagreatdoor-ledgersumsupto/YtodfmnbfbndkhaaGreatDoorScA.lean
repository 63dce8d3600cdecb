/-
  The table of kinds; Valid.
-/
import Derived.Test.YtodfmnbfbndkhaaGreatDoorScD
import Derived.Lib.Hide
import Derived.Lib.QuietBelow
import Derived.BigQuiet
namespace Go.Proofs.YtodfmnbfbndkhaaGreatDoor
open Go.RowKit
open Go.Sort (grow)
theorem reg {w : World} {a : Addr} {v : Value} (h : w.cell? a = some v) : ∀ (dq : Nat) (os : Array Obj), (grow (redrawn w dq) os).cell? a = some v := fun dq os => cell_regrown h dq os
theorem cell_al {w : World} {a : Addr} {v : Value} (h : w.cell? a = some v) (ob : Obj) : (w.alloc ob).cell? a = some v := (((Below.refl _ w).alloc (Nat.le_refl _) ob).cell (block_lt_of_cell h)).trans h
def tAll : ByteArray := ⟨#[97, 108, 108]⟩
def tBest : ByteArray := ⟨#[98, 101, 115, 116]⟩
def tNotbest : ByteArray := ⟨#[110, 111, 116, 98, 101, 115, 116]⟩
def tEnds : ByteArray := ⟨#[101, 110, 100, 115]⟩
def tNotends : ByteArray := ⟨#[110, 111, 116, 101, 110, 100, 115]⟩
def tPriority : ByteArray := ⟨#[112, 114, 105, 111, 114, 105, 116, 121, 61]⟩
/-- The kinds' texts. -/
def kindT (k : Nat) : ByteArray := match k with | 0 => tAll | 1 => tBest | 2 => tNotbest | 3 => tEnds | 4 => tNotends | _ => tPriority
def kindN (k : Nat) : Int := if k < 5 then 1 else 10
/-- The table lies there. -/
def Nms (w : World) : Prop := ∀ k, k < 6 → w.cell? ⟨0, k * 2, none⟩ = some (.string (kindT k)) ∧ w.cell? ⟨0, k * 2 + 1, none⟩ = some (.int .i64 (kindN k))
theorem Nms.below {w w' : World} (h : Nms w) (hb : Below w.heap.size w w') : Nms w' := fun k hk => by
  obtain ⟨h1, h2⟩ := h k hk
  exact ⟨(hb.cell (block_lt_of_cell h1)).trans h1, (hb.cell (block_lt_of_cell h2)).trans h2⟩
/-- What is a scope. -/
def validB (k a : Int) : Bool := decide ((0 ≤ k ∧ k < 5 ∧ a = 0) ∨ (k = 5 ∧ 0 ≤ a ∧ a < 10))
theorem kind_cases (k : Int) (h0 : 0 ≤ k) (h6 : k < 6) : k = 0 ∨ k = 1 ∨ k = 2 ∨ k = 3 ∨ k = 4 ∨ k = 5 := by omega
set_option maxHeartbeats 4000000 in
set_option maxRecDepth 100000 in
theorem valid_any (k a : Int) (w : World) (h : Nms w) :
    Calls Tryz.prog 37 #[.agg #[.int .i64 k, .int .i64 a]] w fun e w' => e = .returned (.bool (validB k a)) ∧ Below w.heap.size w w' := by
  have B0 : Hid (Below w.heap.size w (w.alloc (.cells #[.int .i64 k, .int .i64 a] 39))) := Lib.hid ((Below.refl _ w).alloc (Nat.le_refl _) _)
  have c0 : (w.alloc (.cells #[.int .i64 k, .int .i64 a] 39)).cell? ⟨w.heap.size, 0, none⟩ = some (.int .i64 k) := by rw [World.cell?_alloc_new]; rfl
  have c1 : (w.alloc (.cells #[.int .i64 k, .int .i64 a] 39)).cell? ⟨w.heap.size, 1, none⟩ = some (.int .i64 a) := by rw [World.cell?_alloc_new]; rfl
  have NM : Hid (Nms (w.alloc (.cells #[.int .i64 k, .int .i64 a] 39))) := Lib.hid (h.below B0.out)
  clear h
  go_enter Tryz.func37, Tryz.ntmps37
  go_wp2_with fail
  obtain ⟨X, hX⟩ : ∃ X, X = w.alloc (.cells #[.int .i64 k, .int .i64 a] 39) := ⟨_, rfl⟩
  rw [← hX] at B0 c0 c1 NM ⊢
  clear hX
  have r0 := reg c0
  have r1 := reg c1
  clear c0 c1
  have FIN : Hid (∀ dq os, Below w.heap.size w (grow (redrawn X dq) os)) := Lib.hid fun dq os => B0.out.trans ((below_regrown X dq os).mono B0.out.size)
  clear B0
  by_cases h0 : 0 ≤ k
  · by_cases h6 : k < 6
    · by_cases ha : 0 ≤ a
      · have q3 : decide (0 ≤ a) = true := decide_eq_true ha
        rcases kind_cases k h0 h6 with rfl | rfl | rfl | rfl | rfl | rfl
        all_goals clear h0 h6
        · have n0 : ∀ (dq : Nat) (os : Array Obj), (grow (redrawn X dq) os).cell? ⟨0, 1, none⟩ = some (.int .i64 1) := reg (NM.out 0 (by decide)).2
          by_cases hq : a < 1
          · have q4 : decide (a < 1) = true := decide_eq_true hq
            have E : Hid (validB 0 a = true) := Lib.hid (decide_eq_true (by omega))
            clear hq ha NM
            go_wp2_with fail
            refine wp_region_quiet_below (by kernel_rfl) (by kernel_rfl) ?_
            repeat (go_big_quiet_step (fail))
            refine wpQuiet_nil ?_
            rintro _ ⟨⟨dq, osq⟩, hw''⟩
            subst hw''
            go_wp2_with fail
            go_ret
            exact ⟨by rw [E.out]; rfl, FIN.out _ _⟩
          · have q4 : decide (a < 1) = false := decide_eq_false hq
            have E : Hid (validB 0 a = false) := Lib.hid (decide_eq_false (by omega))
            clear hq ha NM
            go_wp2_with fail
            refine wp_region_quiet_below (by kernel_rfl) (by kernel_rfl) ?_
            repeat (go_big_quiet_step (fail))
            refine wpQuiet_nil ?_
            rintro _ ⟨⟨dq, osq⟩, hw''⟩
            subst hw''
            go_wp2_with fail
            go_ret
            exact ⟨by rw [E.out]; rfl, FIN.out _ _⟩
        · have n0 : ∀ (dq : Nat) (os : Array Obj), (grow (redrawn X dq) os).cell? ⟨0, 3, none⟩ = some (.int .i64 1) := reg (NM.out 1 (by decide)).2
          by_cases hq : a < 1
          · have q4 : decide (a < 1) = true := decide_eq_true hq
            have E : Hid (validB 1 a = true) := Lib.hid (decide_eq_true (by omega))
            clear hq ha NM
            go_wp2_with fail
            refine wp_region_quiet_below (by kernel_rfl) (by kernel_rfl) ?_
            repeat (go_big_quiet_step (fail))
            refine wpQuiet_nil ?_
            rintro _ ⟨⟨dq, osq⟩, hw''⟩
            subst hw''
            go_wp2_with fail
            go_ret
            exact ⟨by rw [E.out]; rfl, FIN.out _ _⟩
          · have q4 : decide (a < 1) = false := decide_eq_false hq
            have E : Hid (validB 1 a = false) := Lib.hid (decide_eq_false (by omega))
            clear hq ha NM
            go_wp2_with fail
            refine wp_region_quiet_below (by kernel_rfl) (by kernel_rfl) ?_
            repeat (go_big_quiet_step (fail))
            refine wpQuiet_nil ?_
            rintro _ ⟨⟨dq, osq⟩, hw''⟩
            subst hw''
            go_wp2_with fail
            go_ret
            exact ⟨by rw [E.out]; rfl, FIN.out _ _⟩
        · have n0 : ∀ (dq : Nat) (os : Array Obj), (grow (redrawn X dq) os).cell? ⟨0, 5, none⟩ = some (.int .i64 1) := reg (NM.out 2 (by decide)).2
          by_cases hq : a < 1
          · have q4 : decide (a < 1) = true := decide_eq_true hq
            have E : Hid (validB 2 a = true) := Lib.hid (decide_eq_true (by omega))
            clear hq ha NM
            go_wp2_with fail
            refine wp_region_quiet_below (by kernel_rfl) (by kernel_rfl) ?_
            repeat (go_big_quiet_step (fail))
            refine wpQuiet_nil ?_
            rintro _ ⟨⟨dq, osq⟩, hw''⟩
            subst hw''
            go_wp2_with fail
            go_ret
            exact ⟨by rw [E.out]; rfl, FIN.out _ _⟩
          · have q4 : decide (a < 1) = false := decide_eq_false hq
            have E : Hid (validB 2 a = false) := Lib.hid (decide_eq_false (by omega))
            clear hq ha NM
            go_wp2_with fail
            refine wp_region_quiet_below (by kernel_rfl) (by kernel_rfl) ?_
            repeat (go_big_quiet_step (fail))
            refine wpQuiet_nil ?_
            rintro _ ⟨⟨dq, osq⟩, hw''⟩
            subst hw''
            go_wp2_with fail
            go_ret
            exact ⟨by rw [E.out]; rfl, FIN.out _ _⟩
        · have n0 : ∀ (dq : Nat) (os : Array Obj), (grow (redrawn X dq) os).cell? ⟨0, 7, none⟩ = some (.int .i64 1) := reg (NM.out 3 (by decide)).2
          by_cases hq : a < 1
          · have q4 : decide (a < 1) = true := decide_eq_true hq
            have E : Hid (validB 3 a = true) := Lib.hid (decide_eq_true (by omega))
            clear hq ha NM
            go_wp2_with fail
            refine wp_region_quiet_below (by kernel_rfl) (by kernel_rfl) ?_
            repeat (go_big_quiet_step (fail))
            refine wpQuiet_nil ?_
            rintro _ ⟨⟨dq, osq⟩, hw''⟩
            subst hw''
            go_wp2_with fail
            go_ret
            exact ⟨by rw [E.out]; rfl, FIN.out _ _⟩
          · have q4 : decide (a < 1) = false := decide_eq_false hq
            have E : Hid (validB 3 a = false) := Lib.hid (decide_eq_false (by omega))
            clear hq ha NM
            go_wp2_with fail
            refine wp_region_quiet_below (by kernel_rfl) (by kernel_rfl) ?_
            repeat (go_big_quiet_step (fail))
            refine wpQuiet_nil ?_
            rintro _ ⟨⟨dq, osq⟩, hw''⟩
            subst hw''
            go_wp2_with fail
            go_ret
            exact ⟨by rw [E.out]; rfl, FIN.out _ _⟩
        · have n0 : ∀ (dq : Nat) (os : Array Obj), (grow (redrawn X dq) os).cell? ⟨0, 9, none⟩ = some (.int .i64 1) := reg (NM.out 4 (by decide)).2
          by_cases hq : a < 1
          · have q4 : decide (a < 1) = true := decide_eq_true hq
            have E : Hid (validB 4 a = true) := Lib.hid (decide_eq_true (by omega))
            clear hq ha NM
            go_wp2_with fail
            refine wp_region_quiet_below (by kernel_rfl) (by kernel_rfl) ?_
            repeat (go_big_quiet_step (fail))
            refine wpQuiet_nil ?_
            rintro _ ⟨⟨dq, osq⟩, hw''⟩
            subst hw''
            go_wp2_with fail
            go_ret
            exact ⟨by rw [E.out]; rfl, FIN.out _ _⟩
          · have q4 : decide (a < 1) = false := decide_eq_false hq
            have E : Hid (validB 4 a = false) := Lib.hid (decide_eq_false (by omega))
            clear hq ha NM
            go_wp2_with fail
            refine wp_region_quiet_below (by kernel_rfl) (by kernel_rfl) ?_
            repeat (go_big_quiet_step (fail))
            refine wpQuiet_nil ?_
            rintro _ ⟨⟨dq, osq⟩, hw''⟩
            subst hw''
            go_wp2_with fail
            go_ret
            exact ⟨by rw [E.out]; rfl, FIN.out _ _⟩
        · have n0 : ∀ (dq : Nat) (os : Array Obj), (grow (redrawn X dq) os).cell? ⟨0, 11, none⟩ = some (.int .i64 10) := reg (NM.out 5 (by decide)).2
          by_cases hq : a < 10
          · have q4 : decide (a < 10) = true := decide_eq_true hq
            have E : Hid (validB 5 a = true) := Lib.hid (decide_eq_true (by omega))
            clear hq ha NM
            go_wp2_with fail
            refine wp_region_quiet_below (by kernel_rfl) (by kernel_rfl) ?_
            repeat (go_big_quiet_step (fail))
            refine wpQuiet_nil ?_
            rintro _ ⟨⟨dq, osq⟩, hw''⟩
            subst hw''
            go_wp2_with fail
            go_ret
            exact ⟨by rw [E.out]; rfl, FIN.out _ _⟩
          · have q4 : decide (a < 10) = false := decide_eq_false hq
            have E : Hid (validB 5 a = false) := Lib.hid (decide_eq_false (by omega))
            clear hq ha NM
            go_wp2_with fail
            refine wp_region_quiet_below (by kernel_rfl) (by kernel_rfl) ?_
            repeat (go_big_quiet_step (fail))
            refine wpQuiet_nil ?_
            rintro _ ⟨⟨dq, osq⟩, hw''⟩
            subst hw''
            go_wp2_with fail
            go_ret
            exact ⟨by rw [E.out]; rfl, FIN.out _ _⟩
      · have q1 : decide (0 ≤ k) = true := decide_eq_true h0
        have q2 : decide (k < 6) = true := decide_eq_true h6
        have q3 : decide (0 ≤ a) = false := decide_eq_false ha
        have E : Hid (validB k a = false) := Lib.hid (decide_eq_false (by omega))
        clear h0 h6 ha NM
        go_wp2_with fail
        refine wp_region_quiet_below (by kernel_rfl) (by kernel_rfl) ?_
        repeat (go_big_quiet_step (fail))
        refine wpQuiet_nil ?_
        rintro _ ⟨⟨dq, osq⟩, hw''⟩
        subst hw''
        go_wp2_with fail
        go_ret
        exact ⟨by rw [E.out]; rfl, FIN.out _ _⟩
    · have q1 : decide (0 ≤ k) = true := decide_eq_true h0
      have q2 : decide (k < 6) = false := decide_eq_false h6
      have E : Hid (validB k a = false) := Lib.hid (decide_eq_false (by omega))
      clear h0 h6 NM
      go_wp2_with fail
      refine wp_region_quiet_below (by kernel_rfl) (by kernel_rfl) ?_
      repeat (go_big_quiet_step (fail))
      refine wpQuiet_nil ?_
      rintro _ ⟨⟨dq, osq⟩, hw''⟩
      subst hw''
      go_wp2_with fail
      go_ret
      exact ⟨by rw [E.out]; rfl, FIN.out _ _⟩
  · have q1 : decide (0 ≤ k) = false := decide_eq_false h0
    have E : Hid (validB k a = false) := Lib.hid (decide_eq_false (by omega))
    clear h0 NM
    go_wp2_with fail
    refine wp_region_quiet_below (by kernel_rfl) (by kernel_rfl) ?_
    repeat (go_big_quiet_step (fail))
    refine wpQuiet_nil ?_
    rintro _ ⟨⟨dq, osq⟩, hw''⟩
    subst hw''
    go_wp2_with fail
    go_ret
    exact ⟨by rw [E.out]; rfl, FIN.out _ _⟩
end Go.Proofs.YtodfmnbfbndkhaaGreatDoor
