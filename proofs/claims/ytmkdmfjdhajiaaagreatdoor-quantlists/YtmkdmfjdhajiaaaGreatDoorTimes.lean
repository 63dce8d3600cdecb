/-
  timesBy, at the numbers of the laws known.
-/
import Derived.Test.YtmkdmfjdhajiaaaGreatDoorFac
namespace Go.Proofs.YtmkdmfjdhajiaaaGreatDoor
open Go.RowKit
set_option maxHeartbeats 4000000 in
set_option maxRecDepth 100000 in
theorem times_a (w : World) : Calls Tryz.prog 39 #[.int .u64 15, .int .u64 1024000, .int .u64 10] w fun e w' => e = .returned (.tuple #[.int .i64 1536000, .int .i64 0]) ∧ Below w.heap.size w w' := by
  go_enter Tryz.func39, Tryz.ntmps39
  go_wp2
  go_quiet (fail)
  go_wp2
  go_ret2
  exact ⟨rfl, ⟨rfl, rfl, rfl, Nat.le_refl _, fun _ _ => rfl⟩⟩
set_option maxHeartbeats 4000000 in
set_option maxRecDepth 100000 in
theorem times_b (w : World) : Calls Tryz.prog 39 #[.int .u64 1, .int .u64 1000, .int .u64 10000] w fun e w' => e = .returned (.tuple #[.int .i64 1, .int .i64 0]) ∧ Below w.heap.size w w' := by
  go_enter Tryz.func39, Tryz.ntmps39
  go_wp2
  go_quiet (fail)
  go_wp2
  go_ret2
  exact ⟨rfl, ⟨rfl, rfl, rfl, Nat.le_refl _, fun _ _ => rfl⟩⟩
end Go.Proofs.YtmkdmfjdhajiaaaGreatDoor
