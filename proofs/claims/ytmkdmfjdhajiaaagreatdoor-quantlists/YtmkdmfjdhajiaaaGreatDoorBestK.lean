/-
  Print, at the values of the laws known.
-/
import Derived.Test.YtmkdmfjdhajiaaaGreatDoorPrint
namespace Go.Proofs.YtmkdmfjdhajiaaaGreatDoor
open Go.RowKit Go.Lib
theorem dig_1 : dig 1 = ⟨#[49]⟩ := by simp [dig, decDigits]
theorem dig_1024 : dig 1024 = ⟨#[49, 48, 50, 52]⟩ := by
  have e : decDigits 1024 = [49, 48, 50, 52] := by
    rw [decDigits, dif_neg (by decide), decDigits, dif_neg (by decide), decDigits, dif_neg (by decide), decDigits, dif_pos (by decide)]; rfl
  unfold dig; rw [e]
theorem dig_1024000 : dig 1024000 = ⟨#[49, 48, 50, 52, 48, 48, 48]⟩ := by
  have e : decDigits 1024000 = [49, 48, 50, 52, 48, 48, 48] := by
    rw [decDigits, dif_neg (by decide), decDigits, dif_neg (by decide), decDigits, dif_neg (by decide), decDigits, dif_neg (by decide), decDigits, dif_neg (by decide), decDigits, dif_neg (by decide), decDigits, dif_pos (by decide)]; rfl
  unfold dig; rw [e]
theorem dig_500 : dig 500 = ⟨#[53, 48, 48]⟩ := by
  have e : decDigits 500 = [53, 48, 48] := by
    rw [decDigits, dif_neg (by decide), decDigits, dif_neg (by decide), decDigits, dif_pos (by decide)]; rfl
  unfold dig; rw [e]
theorem best_a1 : best 1024000 1 = ⟨#[49, 48, 50, 52, 48, 48, 48, 109]⟩ := by
  rw [best, if_pos (by decide), if_pos (Or.inl (show (best 1024000 0).size = 0 from rfl)), show 1024000 / sufN 0 = 1024000 by decide, dig_1024000]; rfl
theorem best_a2 : best 1024000 2 = ⟨#[49, 48, 50, 52]⟩ := by
  rw [best, if_pos (by decide), best_a1, show 1024000 / sufN 1 = 1024 by decide, dig_1024, if_pos (Or.inr (by decide))]; rfl
theorem best_a7 : best 1024000 7 = ⟨#[49, 48, 50, 52]⟩ := by
  rw [best, if_neg (by decide), best, if_neg (by decide), best, if_neg (by decide), best, if_neg (by decide), best, if_neg (by decide), best_a2]
theorem best_a8 : best 1024000 8 = ⟨#[49, 75, 105]⟩ := by
  rw [best, if_pos (by decide), best_a7, show 1024000 / sufN 7 = 1 by decide, dig_1, if_pos (Or.inr (by decide))]; rfl
theorem best_a : best 1024000 12 = ⟨#[49, 75, 105]⟩ := by
  rw [best, if_neg (by decide), best, if_neg (by decide), best, if_neg (by decide), best, if_neg (by decide), best_a8]
theorem best_b1 : best 500 1 = ⟨#[53, 48, 48, 109]⟩ := by
  rw [best, if_pos (by decide), if_pos (Or.inl (show (best 500 0).size = 0 from rfl)), show 500 / sufN 0 = 500 by decide, dig_500]; rfl
theorem best_b : best 500 12 = ⟨#[53, 48, 48, 109]⟩ := by
  rw [best, if_neg (by decide), best, if_neg (by decide), best, if_neg (by decide), best, if_neg (by decide), best, if_neg (by decide), best, if_neg (by decide), best, if_neg (by decide), best, if_neg (by decide), best, if_neg (by decide), best, if_neg (by decide), best, if_neg (by decide), best_b1]
end Go.Proofs.YtmkdmfjdhajiaaaGreatDoor
