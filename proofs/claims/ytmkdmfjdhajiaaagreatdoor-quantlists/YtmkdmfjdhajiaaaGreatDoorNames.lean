/-
  The names cpu and memory: isPiece, isResource, isAmount.
-/
import Derived.Test.YtmkdmfjdhajiaaaGreatDoorSplit
namespace Go.Proofs.YtmkdmfjdhajiaaaGreatDoor
open Go.RowKit
def cpuT : ByteArray := ⟨#[99, 112, 117]⟩
def memT : ByteArray := ⟨#[109, 101, 109, 111, 114, 121]⟩
set_option maxHeartbeats 2000000 in
theorem piece_cpu (w : World) : Calls Tryz.prog 56 #[.string cpuT] w fun e w' => e = .returned (.bool true) ∧ w' = w := by
  unfold cpuT
  go_enter Tryz.func56, Tryz.ntmps56
  go_wp2
  go_rounds 4
  go_ret
  exact ⟨rfl, rfl⟩
set_option maxHeartbeats 2000000 in
theorem piece_mem (w : World) : Calls Tryz.prog 56 #[.string memT] w fun e w' => e = .returned (.bool true) ∧ w' = w := by
  unfold memT
  go_enter Tryz.func56, Tryz.ntmps56
  go_wp2
  go_rounds 7
  go_ret
  exact ⟨rfl, rfl⟩
theorem res_cpu (w : World) : Calls Tryz.prog 41 #[.string cpuT] w fun e w' => e = .returned (.bool true) ∧ Below w.heap.size w w' := res_any cpuT true (by decide) (by decide) piece_cpu w
theorem res_mem (w : World) : Calls Tryz.prog 41 #[.string memT] w fun e w' => e = .returned (.bool true) ∧ Below w.heap.size w w' := res_any memT true (by decide) (by decide) piece_mem w
set_option maxHeartbeats 2000000 in
theorem amount_ok (t : ByteArray) (v : Nat) (hr : ∀ w, Calls Tryz.prog 41 #[.string t] w fun e w' => e = .returned (.bool true) ∧ Below w.heap.size w w') (w : World) :
    Calls Tryz.prog 20 #[.agg #[.string t, .int .i64 v]] w fun e w' => e = .returned (.bool true) ∧ Below w.heap.size w w' := by
  go_enter Tryz.func20, Tryz.ntmps20
  go_wp2_with fail
  refine (hr _).mono ?_
  rintro e w1 ⟨rfl, hb⟩
  have B : Aside (Below w.heap.size w w1) := ((Below.refl _ w).alloc (Nat.le_refl _) _).trans (hb.mono (by simp))
  clear hb
  go_wp2_with fail
  go_ret
  exact ⟨rfl, B.out⟩
end Go.Proofs.YtmkdmfjdhajiaaaGreatDoor
