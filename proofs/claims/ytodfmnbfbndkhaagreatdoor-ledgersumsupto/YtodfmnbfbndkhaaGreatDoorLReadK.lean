/-
  read, at the pieces of the laws fixed text.
-/
import Derived.Test.YtodfmnbfbndkhaaGreatDoorLInv
namespace Go.Proofs.YtodfmnbfbndkhaaGreatDoor.L
open Go.RowKit
/-- A variable of the library's holds some number. -/
def HasM (w : World) : Prop := ∃ m, w.cell? ⟨1, 0, none⟩ = some (.int .i64 m)
theorem HasM.below {w w' : World} (h : HasM w) (hb : Below w.heap.size w w') : HasM w' := by
  obtain ⟨m, hm⟩ := h
  exact ⟨m, (hb.cell (block_lt_of_cell hm)).trans hm⟩
theorem below_drawn (w : World) (n : Nat) : Below w.heap.size w (w.drewN n) := ⟨rfl, rfl, rfl, Nat.le_refl _, fun _ _ => rfl⟩
theorem spl_xy : Lib.splitB ⟨#[32]⟩ 0 3 ⟨#[120, 32, 121]⟩ = [⟨#[120]⟩, ⟨#[121]⟩] := by kernel_rfl
theorem cut_in : Lib.cut (⟨#[97, 32, 105, 110, 32, 40, 120, 32, 121, 41]⟩ : ByteArray).data.toList (⟨#[32, 105, 110, 32, 40]⟩ : ByteArray).data.toList = ([97], [120, 32, 121, 41], true) := by kernel_rfl
theorem cells_xy : Lib.cellsOf [⟨#[120]⟩, ⟨#[121]⟩] 4 = #[.string ⟨#[120]⟩, .string ⟨#[121]⟩, .string ⟨#[]⟩, .string ⟨#[]⟩] := by kernel_rfl
end Go.Proofs.YtodfmnbfbndkhaaGreatDoor.L
