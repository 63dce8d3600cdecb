/-
  Valid, at the lists of the laws known.
-/
import Derived.Test.YtmkdmfjdhajiaaaGreatDoorNames
import Derived.RegionTactic
import Derived.BigQuiet
import Derived.Deep.QuietTactic
import Derived.Lib.QuietBelow
namespace Go.Proofs.YtmkdmfjdhajiaaaGreatDoor
open Go.RowKit Go.Sort
theorem amount_cpu (v : Nat) (w : World) : Calls Tryz.prog 20 #[.agg #[.string ⟨#[99, 112, 117]⟩, .int .i64 v]] w fun e w' => e = .returned (.bool true) ∧ Below w.heap.size w w' := amount_ok _ v res_cpu w
theorem amount_mem (v : Nat) (w : World) : Calls Tryz.prog 20 #[.agg #[.string ⟨#[109, 101, 109, 111, 114, 121]⟩, .int .i64 v]] w fun e w' => e = .returned (.bool true) ∧ Below w.heap.size w w' := amount_ok _ v res_mem w
/-- The world of a round: the amount in its box. -/
def boxA (w : World) (t : ByteArray) (v : Int) : World := w.alloc (.cells #[.string t, .int .i64 v] 36)
theorem box0 (w : World) (t : ByteArray) (v : Int) (d : Nat) (os : Array Obj) : (grow (redrawn (boxA w t v) d) os).cell? ⟨w.heap.size, 0, none⟩ = some (.string t) :=
  cell_regrown (by unfold boxA; rw [World.cell?_alloc_new]; rfl) d os
theorem box1 (w : World) (t : ByteArray) (v : Int) (d : Nat) (os : Array Obj) : (grow (redrawn (boxA w t v) d) os).cell? ⟨w.heap.size, 1, none⟩ = some (.int .i64 v) :=
  cell_regrown (by unfold boxA; rw [World.cell?_alloc_new]; rfl) d os
theorem box_old {w : World} {a : Addr} {x : Value} (h : w.cell? a = some x) (t : ByteArray) (v : Int) (d : Nat) (os : Array Obj) : (grow (redrawn (boxA w t v) d) os).cell? a = some x :=
  cell_regrown (by unfold boxA; rw [((Below.refl w.heap.size w).alloc (Nat.le_refl _) _).cell (block_lt_of_cell h)]; exact h) d os
theorem box_below (w : World) (t : ByteArray) (v : Int) (d : Nat) (os : Array Obj) : Below w.heap.size w (grow (redrawn (boxA w t v) d) os) :=
  ((Below.refl w.heap.size w).alloc (Nat.le_refl _) _).trans ((below_regrown (boxA w t v) d os).mono (by unfold boxA; simp))
set_option maxHeartbeats 4000000 in
set_option maxRecDepth 100000 in
theorem valid_one (b : Nat) (w : World) (c0 : w.cell? ⟨b, 0, none⟩ = some (.string ⟨#[109, 101, 109, 111, 114, 121]⟩)) (c1 : w.cell? ⟨b, 1, none⟩ = some (.int .i64 3)) :
    Calls Tryz.prog 6 #[.slice (some ⟨b, 0, none⟩) 1 1] w fun e w' => e = .returned (.int .i64 0) ∧ Below w.heap.size w w' := by
  have xQ : Hid (∀ d os, Calls Tryz.prog 20 #[.agg #[.string ⟨#[109, 101, 109, 111, 114, 121]⟩, .int .i64 3]] (grow (redrawn (boxA w ⟨#[109, 101, 109, 111, 114, 121]⟩ 3) d) os) fun e w'' => e = .returned (.bool true) ∧ ∃ p : Regrown, w'' = grow (redrawn (boxA w ⟨#[109, 101, 109, 111, 114, 121]⟩ 3) p.d) p.os) := fun d os => Calls.regrown_of (amount_mem 3 _)
  have x0 := box0 w ⟨#[109, 101, 109, 111, 114, 121]⟩ 3
  have x1 := box1 w ⟨#[109, 101, 109, 111, 114, 121]⟩ 3
  have xB := Lib.hid (box_below w ⟨#[109, 101, 109, 111, 114, 121]⟩ 3)
  unfold boxA at xQ x0 x1 xB
  go_enter Tryz.func6, Tryz.ntmps6
  go_wp2_with fail
  refine wp_loop_rounds 2 ?_
  rw [rounds_succ]
  go_wp2_with fail
  refine wp_region_quiet_below (by kernel_rfl) (by kernel_rfl) ?_
  repeat (go_big_quiet_step (exact xQ.out _ _))
  refine wpQuiet_nil ?_
  intro _ hw'
  obtain ⟨⟨dq, osq⟩, hw''⟩ := hw'
  subst hw''
  clear x0 x1 xQ
  go_wp2_with fail
  rw [rounds_succ]
  go_wp2_with fail
  go_ret
  exact ⟨rfl, xB.out _ _⟩
set_option maxHeartbeats 4000000 in
set_option maxRecDepth 100000 in
theorem valid_two (b : Nat) (w : World) (c0 : w.cell? ⟨b, 0, none⟩ = some (.string ⟨#[99, 112, 117]⟩)) (c1 : w.cell? ⟨b, 1, none⟩ = some (.int .i64 1)) (c2 : w.cell? ⟨b, 2, none⟩ = some (.string ⟨#[109, 101, 109, 111, 114, 121]⟩)) (c3 : w.cell? ⟨b, 3, none⟩ = some (.int .i64 2)) :
    Calls Tryz.prog 6 #[.slice (some ⟨b, 0, none⟩) 2 2] w fun e w' => e = .returned (.int .i64 0) ∧ Below w.heap.size w w' := by
  have xQ : Hid (∀ d os, Calls Tryz.prog 20 #[.agg #[.string ⟨#[99, 112, 117]⟩, .int .i64 1]] (grow (redrawn (boxA w ⟨#[99, 112, 117]⟩ 1) d) os) fun e w'' => e = .returned (.bool true) ∧ ∃ p : Regrown, w'' = grow (redrawn (boxA w ⟨#[99, 112, 117]⟩ 1) p.d) p.os) := fun d os => Calls.regrown_of (amount_cpu 1 _)
  have x0 := box0 w ⟨#[99, 112, 117]⟩ 1
  have x1 := box1 w ⟨#[99, 112, 117]⟩ 1
  have xB := Lib.hid (box_below w ⟨#[99, 112, 117]⟩ 1)
  unfold boxA at xQ x0 x1 xB
  have C : Hid (w.cell? ⟨b, 0, none⟩ = some (.string ⟨#[99, 112, 117]⟩) ∧ w.cell? ⟨b, 2, none⟩ = some (.string ⟨#[109, 101, 109, 111, 114, 121]⟩) ∧ w.cell? ⟨b, 3, none⟩ = some (.int .i64 2)) := ⟨c0, c2, c3⟩
  clear c2 c3
  go_enter Tryz.func6, Tryz.ntmps6
  go_wp2_with fail
  refine wp_loop_rounds 3 ?_
  rw [rounds_succ]
  go_wp2_with fail
  refine wp_region_quiet_below (by kernel_rfl) (by kernel_rfl) ?_
  repeat (go_big_quiet_step (exact xQ.out _ _))
  refine wpQuiet_nil ?_
  intro _ hw'
  obtain ⟨⟨dq, osq⟩, hw''⟩ := hw'
  subst hw''
  clear x0 x1 xQ c0 c1
  have B1 := xB.out dq osq
  obtain ⟨w1, hw1⟩ : ∃ w1, w1 = grow (redrawn (w.alloc (.cells #[.string ⟨#[99, 112, 117]⟩, .int .i64 1] 36)) dq) osq := ⟨_, rfl⟩
  rw [← hw1] at B1 ⊢
  clear hw1 xB
  have d0 := (B1.cell (block_lt_of_cell C.out.1)).trans C.out.1
  have d2 := (B1.cell (block_lt_of_cell C.out.2.1)).trans C.out.2.1
  have d3 := (B1.cell (block_lt_of_cell C.out.2.2)).trans C.out.2.2
  have y9 := box_old d0 ⟨#[109, 101, 109, 111, 114, 121]⟩ 2
  have yQ : Hid (∀ d os, Calls Tryz.prog 20 #[.agg #[.string ⟨#[109, 101, 109, 111, 114, 121]⟩, .int .i64 2]] (grow (redrawn (boxA w1 ⟨#[109, 101, 109, 111, 114, 121]⟩ 2) d) os) fun e w'' => e = .returned (.bool true) ∧ ∃ p : Regrown, w'' = grow (redrawn (boxA w1 ⟨#[109, 101, 109, 111, 114, 121]⟩ 2) p.d) p.os) := fun d os => Calls.regrown_of (amount_mem 2 _)
  have y0 := box0 w1 ⟨#[109, 101, 109, 111, 114, 121]⟩ 2
  have y1 := box1 w1 ⟨#[109, 101, 109, 111, 114, 121]⟩ 2
  have yB := Lib.hid (box_below w1 ⟨#[109, 101, 109, 111, 114, 121]⟩ 2)
  unfold boxA at yQ y0 y1 yB y9
  have BB := Lib.hid B1
  clear B1 d0
  go_wp2_with fail
  rw [rounds_succ]
  go_wp2_with fail
  refine wp_region_quiet_below (by kernel_rfl) (by kernel_rfl) ?_
  repeat (go_big_quiet_step (exact yQ.out _ _))
  refine wpQuiet_nil ?_
  intro _ hw'
  obtain ⟨⟨dq, osq⟩, hw''⟩ := hw'
  subst hw''
  clear y0 y1 yQ y9 d2 d3
  go_wp2_with fail
  rw [rounds_succ]
  go_wp2_with fail
  go_ret
  exact ⟨rfl, BB.out.trans ((yB.out _ _).mono BB.out.size)⟩
end Go.Proofs.YtmkdmfjdhajiaaaGreatDoor
