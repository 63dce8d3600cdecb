/-
  first, fixed.
-/
import Derived.Test.YthjekiddjldehaaAnB
namespace Go.Proofs.Ythjekiddjldehaa
open Go.RowKit Go.Maps Go.Sort
set_option maxRecDepth 100000 in
set_option maxHeartbeats 1000000 in
theorem first_any (w : World) : Calls Try.prog 38 #[] w fun e w' => e = .returned (.agg #[.int .i64 1, .int .i64 1, .int .i64 64, .int .i64 8, .int .i64 1, .int .i64 0, .int .i64 0, .int .i64 0, .int .i64 0]) ∧ Below w.heap.size w w' := by
  go_enter Try.func38, Try.ntmps38
  go_wp2_with fail
  refine bodyPost_ret (results_cell_row rfl _ _ w.heap.size 25 #[.int .i64 1, .int .i64 1, .int .i64 64, .int .i64 8, .int .i64 1, .int .i64 0, .int .i64 0, .int .i64 0, .int .i64 0] (0, 0) _ rfl ?_ Try.underlying25 rfl size_super) rfl ⟨rfl, ?_⟩
  · exact heap_alloc_new _ _
  · exact (Below.refl _ _).alloc (Nat.le_refl _) _
set_option maxRecDepth 100000 in
set_option maxHeartbeats 8000000 in
theorem fixed_any (w : World) : Calls Try.prog 8 #[] w fun e w' => e = .returned (.bool true) ∧ Below w.heap.size w w' := by
  obtain ⟨b, hb⟩ : ∃ b, b = w.heap.size := ⟨_, rfl⟩
  have NW := Lib.hid (new_ok 64 w (by decide) (by decide))
  obtain ⟨z, hz⟩ : ∃ z : List UInt8, z = List.replicate (512 * 64) 0 := ⟨_, rfl⟩
  have ZM : Hid (Zm z) := Lib.hid (by rw [hz]; exact zm_zs)
  rw [← hz, ← hb] at NW
  have HB := Lib.hid hb
  clear hz hb
  go_enter Try.func8, Try.ntmps8
  go_wp2_with fail
  refine NW.out.mono ?_
  rintro e w1 ⟨rfl, b1, d1⟩
  have RD := Lib.hid (read_up d1 rfl)
  rw [fx0_read ZM.out] at RD
  have D1 := Lib.hid (And.intro b1 (d1.foot_lt b (Or.inr (Or.inl rfl))))
  clear b1 d1 NW
  go_wp2_with fail
  refine RD.out.mono ?_
  rintro e w2 ⟨rfl, d2, k2⟩
  have D2 := Lib.hid (And.intro d2 k2)
  clear d2 k2 RD
  have ZA : zeroS.arr = #[.int .i64 0, .int .i64 0, .int .i64 0, .int .i64 0, .int .i64 0, .int .i64 0, .int .i64 0, .int .i64 0, .int .i64 0] := rfl
  rw [ZA]
  clear ZA
  go_wp2_with fail
  refine (first_any _).mono ?_
  rintro e w3 ⟨rfl, b3⟩
  have B3 : Hid (Below w2.heap.size w2 w3) := Lib.hid (((Below.refl _ _).alloc (Nat.le_refl _) _).trans (b3.mono (by simp)))
  clear b3
  have WR := Lib.hid (write_a (D2.out.1.below B3.out) firstS (show 0 < 4611686018427387904 by decide) (show 0 < 137438953471 by decide))
  rw [fx0_write z] at WR
  simp only at WR
  have FA : firstS.arr = #[.int .i64 1, .int .i64 1, .int .i64 64, .int .i64 8, .int .i64 1, .int .i64 0, .int .i64 0, .int .i64 0, .int .i64 0] := rfl
  rw [FA] at WR
  go_wp2_with fail
  refine WR.out.mono ?_
  rintro e w4 ⟨cv4, rfl, d4, k4, a4⟩
  have RD := Lib.hid (read_up d4 rfl)
  rw [fx1_read ZM.out] at RD
  simp only at RD
  rw [FA] at RD
  have D4 := Lib.hid (And.intro k4 a4)
  clear d4 k4 a4 WR
  go_wp2_with fail
  refine RD.out.mono ?_
  rintro e w5 ⟨rfl, d5, k5⟩
  have K5 := Lib.hid k5
  clear d5 k5 RD
  obtain ⟨g7, hg7⟩ : ∃ g, g = w5.heap.size := ⟨_, rfl⟩
  have hg7' := hg7.symm
  have HG7 := Lib.hid hg7
  clear hg7
  go_wp2_with fail
  refine (first_any _).mono ?_
  rintro e w6 ⟨rfl, b6⟩
  have B6 : Hid (Below w5.heap.size w5 w6 ∧ w6.heap[g7]? = some (.cells firstS.arr 25 (0, 0))) := Lib.hid ⟨((Below.refl _ _).alloc (Nat.le_refl _) _).trans (b6.mono (by simp)), by rw [HG7.out, b6.block _ (by simp)]; exact heap_alloc_new _ _⟩
  have EN := Lib.hid (enc_yes firstS w6 first_va)
  rw [FA] at EN
  clear b6 hg7'
  go_wp2_with fail
  refine EN.out.mono ?_
  rintro e w7 ⟨gb, rfl, o7, b7⟩
  have B7 : Hid (Below w5.heap.size w5 w7) := Lib.hid (B6.out.1.trans (b7.mono B6.out.1.size))
  have G7 : w7.heap[g7]? = some (.cells firstS.arr 25 (0, 0)) := by rw [b7.block g7 (lt_of_heap B6.out.2)]; exact B6.out.2
  obtain ⟨y0, y1, y2, y3, y4, y5, y6, y7, y8⟩ := sup_cells G7
  unfold firstS at y0 y1 y2 y3 y4 y5 y6 y7 y8
  simp only at y0 y1 y2 y3 y4 y5 y6 y7 y8
  have r0 : ∀ (dq : Nat) (os : Array Obj), (grow (redrawn w7 dq) os).cell? ⟨g7, 0, none⟩ = some (.int .i64 1) := fun dq os => cell_regrown y0 dq os
  have r1 : ∀ (dq : Nat) (os : Array Obj), (grow (redrawn w7 dq) os).cell? ⟨g7, 1, none⟩ = some (.int .i64 1) := fun dq os => cell_regrown y1 dq os
  have r2 : ∀ (dq : Nat) (os : Array Obj), (grow (redrawn w7 dq) os).cell? ⟨g7, 2, none⟩ = some (.int .i64 64) := fun dq os => cell_regrown y2 dq os
  have r3 : ∀ (dq : Nat) (os : Array Obj), (grow (redrawn w7 dq) os).cell? ⟨g7, 3, none⟩ = some (.int .i64 8) := fun dq os => cell_regrown y3 dq os
  have r4 : ∀ (dq : Nat) (os : Array Obj), (grow (redrawn w7 dq) os).cell? ⟨g7, 4, none⟩ = some (.int .i64 1) := fun dq os => cell_regrown y4 dq os
  have r5 : ∀ (dq : Nat) (os : Array Obj), (grow (redrawn w7 dq) os).cell? ⟨g7, 5, none⟩ = some (.int .i64 0) := fun dq os => cell_regrown y5 dq os
  have r6 : ∀ (dq : Nat) (os : Array Obj), (grow (redrawn w7 dq) os).cell? ⟨g7, 6, none⟩ = some (.int .i64 0) := fun dq os => cell_regrown y6 dq os
  have r7 : ∀ (dq : Nat) (os : Array Obj), (grow (redrawn w7 dq) os).cell? ⟨g7, 7, none⟩ = some (.int .i64 0) := fun dq os => cell_regrown y7 dq os
  have r8 : ∀ (dq : Nat) (os : Array Obj), (grow (redrawn w7 dq) os).cell? ⟨g7, 8, none⟩ = some (.int .i64 0) := fun dq os => cell_regrown y8 dq os
  have xB : Hid (∀ (dq : Nat) (os : Array Obj), Below w7.heap.size w7 (grow (redrawn w7 dq) os)) := fun dq os => below_regrown w7 dq os
  have qF : Hid (∀ (dq : Nat) (os : Array Obj), Calls Try.prog 38 #[] (grow (redrawn w7 dq) os) fun e w'' => e = .returned (.agg #[.int .i64 1, .int .i64 1, .int .i64 64, .int .i64 8, .int .i64 1, .int .i64 0, .int .i64 0, .int .i64 0, .int .i64 0]) ∧ ∃ p : Regrown, w'' = grow (redrawn w7 p.d) p.os) := fun dq os => Calls.regrown_of (first_any _)
  have cvt : ∀ (dq : Nat) (os : Array Obj), (convert 32 9 (.slice (some ⟨gb, 0, none⟩) 9 512)).run Try.prog (grow (redrawn w7 dq) os) = .ok (.string ⟨#[66, 83, 65, 82, 1, 0, 0, 0, 1]⟩) (grow (redrawn w7 dq) os) := fun dq os => by
    have hb := (o7.bytes).below (xB.out dq os)
    have hb' : Bytes (grow (redrawn w7 dq) os) (.slice (some ⟨gb, 0, none⟩) (layA firstS).length 512) (layA firstS) := by rw [layA_length]; exact hb
    have ht := hb'.take 9 (by rw [layA_length]; decide)
    have e9 : (layA firstS).take 9 = [66, 83, 65, 82, 1, 0, 0, 0, 1] := by have := first_nine; rwa [List.drop_zero] at this
    rw [e9] at ht
    exact convT ht
  clear o7 b7 EN G7 FA y0 y1 y2 y3 y4 y5 y6 y7 y8
  go_wp2_with fail
  refine wp_region_quiet_below (by kernel_rfl) (by kernel_rfl) ?_
  repeat (go_big_quiet_step (first | with_reducible exact qF.out _ _))
  refine wpQuiet_nil ?_
  intro _ hw'
  obtain ⟨⟨dq, osq⟩, hw''⟩ := hw'
  subst hw''
  go_wp2_with fail
  go_ret
  refine ⟨rfl, ?_⟩
  have t1 : b ≤ w1.heap.size := by rw [HB.out]; exact D1.out.1.size
  have q2 : Below b w1 w2 := D2.out.2.below t1 (fun x hx => by omega)
  have t2 : b ≤ w2.heap.size := Nat.le_trans t1 q2.size
  have q3 : Below b w2 w3 := B3.out.mono t2
  have t3 : b ≤ w3.heap.size := Nat.le_trans t2 q3.size
  have q4 : Below b w3 w4 := D4.out.1.below t3 (fun x hx => ((D2.out.1.below B3.out).foot_lt x hx).1)
  have t4 : b ≤ w4.heap.size := Nat.le_trans t3 q4.size
  have q5 : Below b w4 w5 := K5.out.below t4 (fun x hx => by omega)
  have t5 : b ≤ w5.heap.size := Nat.le_trans t4 q5.size
  have q7 : Below b w5 w7 := B7.out.mono t5
  have t7 : b ≤ w7.heap.size := Nat.le_trans t5 q7.size
  have q8 := (xB.out dq osq).mono t7
  rw [← HB.out]
  have q1 : Below b w w1 := D1.out.1
  exact (((((q1.trans q2).trans q3).trans q4).trans q5).trans q7).trans q8
end Go.Proofs.Ythjekiddjldehaa
