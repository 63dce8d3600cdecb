/-
  Parse, at the texts of the laws known.
-/
import Derived.Test.YtmkdmfjdhajiaaaGreatDoorConv
namespace Go.Proofs.YtmkdmfjdhajiaaaGreatDoor
open Go.RowKit
set_option maxHeartbeats 4000000 in
set_option maxRecDepth 100000 in
theorem parse_a (w : World) (h : Suf w) : Calls Tryz.prog 18 #[.string ⟨#[49, 46, 53, 75, 105]⟩] w fun e w' => e = .returned (.tuple #[.int .i64 1536000, .int .i64 0]) ∧ Below w.heap.size w w' := by
  have H : Aside (Suf w) := h
  clear h
  go_enter Tryz.func18, Tryz.ntmps18
  go_wp2_with fail
  refine (cut_at ⟨#[49, 46, 53, 75, 105]⟩ ⟨#[49]⟩ ⟨#[46, 53, 75, 105]⟩ (by decide) (by rfl) (by decide) (by decide) w).mono ?_
  rintro e w1 ⟨rfl, hb⟩
  have B1 : Aside (Below w.heap.size w w1) := hb
  clear hb
  go_wp2_with fail
  refine (Tryz.strings_CutPrefix ⟨#[46, 53, 75, 105]⟩ ⟨#[46]⟩ w1).mono ?_
  rintro e w1 ⟨rfl, rfl⟩
  rw [show Lib.trimPrefix (⟨#[46, 53, 75, 105]⟩ : ByteArray).data.toList (⟨#[46]⟩ : ByteArray).data.toList = [53, 75, 105] by decide, show Lib.hasPrefix (⟨#[46, 53, 75, 105]⟩ : ByteArray).data.toList (⟨#[46]⟩ : ByteArray).data.toList = true by decide]
  go_wp2_with fail
  refine (cut_at ⟨#[53, 75, 105]⟩ ⟨#[53]⟩ ⟨#[75, 105]⟩ (by decide) (by rfl) (by decide) (by decide) w1).mono ?_
  rintro e w2 ⟨rfl, hb⟩
  have B2 : Aside (Below w.heap.size w w2) := B1.out.trans (hb.mono B1.out.size)
  clear hb
  go_wp2_with fail
  refine (factor_Ki w2 (H.out.below B2.out)).mono ?_
  rintro e w3 ⟨rfl, hb⟩
  have B3 : Aside (Below w.heap.size w w3) := B2.out.trans (hb.mono B2.out.size)
  clear hb
  obtain ⟨cap, w4, hcv, hb, hcells⟩ := conv_bytes w3 (⟨#[49]⟩ ++ ⟨#[53]⟩)
  have B4 : Aside (Below w.heap.size w w4) := B3.out.trans (hb.mono B3.out.size)
  have d0 : w4.cell? ⟨w3.heap.size, 0, none⟩ = some (.int .u8 49) := hcells 0 _ (by rfl)
  have d1 : w4.cell? ⟨w3.heap.size, 1, none⟩ = some (.int .u8 53) := hcells 1 _ (by rfl)
  have sz : (⟨#[49]⟩ ++ ⟨#[53]⟩ : ByteArray).size = 2 := by decide
  rw [sz] at hcv
  clear hcells hb sz
  go_wp2_with fail
  go_rounds 3
  go_rounds 2
  go_quiet (fail)
  go_wp2
  go_ret2
  exact ⟨rfl, B4.out.trans ⟨rfl, rfl, rfl, Nat.le_refl _, fun _ _ => rfl⟩⟩
set_option maxHeartbeats 4000000 in
set_option maxRecDepth 100000 in
theorem parse_b (w : World) (h : Suf w) : Calls Tryz.prog 18 #[.string ⟨#[48, 46, 48, 48, 48, 49]⟩] w fun e w' => e = .returned (.tuple #[.int .i64 1, .int .i64 0]) ∧ Below w.heap.size w w' := by
  have H : Aside (Suf w) := h
  clear h
  go_enter Tryz.func18, Tryz.ntmps18
  go_wp2_with fail
  refine (cut_at ⟨#[48, 46, 48, 48, 48, 49]⟩ ⟨#[48]⟩ ⟨#[46, 48, 48, 48, 49]⟩ (by decide) (by rfl) (by decide) (by decide) w).mono ?_
  rintro e w1 ⟨rfl, hb⟩
  have B1 : Aside (Below w.heap.size w w1) := hb
  clear hb
  go_wp2_with fail
  refine (Tryz.strings_CutPrefix ⟨#[46, 48, 48, 48, 49]⟩ ⟨#[46]⟩ w1).mono ?_
  rintro e w1 ⟨rfl, rfl⟩
  rw [show Lib.trimPrefix (⟨#[46, 48, 48, 48, 49]⟩ : ByteArray).data.toList (⟨#[46]⟩ : ByteArray).data.toList = [48, 48, 48, 49] by decide, show Lib.hasPrefix (⟨#[46, 48, 48, 48, 49]⟩ : ByteArray).data.toList (⟨#[46]⟩ : ByteArray).data.toList = true by decide]
  go_wp2_with fail
  refine (cut_at ⟨#[48, 48, 48, 49]⟩ ⟨#[48, 48, 48, 49]⟩ ⟨#[]⟩ (by decide) (by rfl) (by decide) (by decide) w1).mono ?_
  rintro e w2 ⟨rfl, hb⟩
  have B2 : Aside (Below w.heap.size w w2) := B1.out.trans (hb.mono B1.out.size)
  clear hb
  go_wp2_with fail
  refine (factor_one w2 (H.out.below B2.out)).mono ?_
  rintro e w3 ⟨rfl, hb⟩
  have B3 : Aside (Below w.heap.size w w3) := B2.out.trans (hb.mono B2.out.size)
  clear hb
  obtain ⟨cap, w4, hcv, hb, hcells⟩ := conv_bytes w3 (⟨#[48]⟩ ++ ⟨#[48, 48, 48, 49]⟩)
  have B4 : Aside (Below w.heap.size w w4) := B3.out.trans (hb.mono B3.out.size)
  have d0 : w4.cell? ⟨w3.heap.size, 0, none⟩ = some (.int .u8 48) := hcells 0 _ (by rfl)
  have d1 : w4.cell? ⟨w3.heap.size, 1, none⟩ = some (.int .u8 48) := hcells 1 _ (by rfl)
  have d2 : w4.cell? ⟨w3.heap.size, 2, none⟩ = some (.int .u8 48) := hcells 2 _ (by rfl)
  have d3 : w4.cell? ⟨w3.heap.size, 3, none⟩ = some (.int .u8 48) := hcells 3 _ (by rfl)
  have d4 : w4.cell? ⟨w3.heap.size, 4, none⟩ = some (.int .u8 49) := hcells 4 _ (by rfl)
  have sz : (⟨#[48]⟩ ++ ⟨#[48, 48, 48, 49]⟩ : ByteArray).size = 5 := by decide
  rw [sz] at hcv
  clear hcells hb sz
  go_wp2_with fail
  go_rounds 6
  go_rounds 5
  go_quiet (fail)
  go_wp2
  go_ret2
  exact ⟨rfl, B4.out.trans ⟨rfl, rfl, rfl, Nat.le_refl _, fun _ _ => rfl⟩⟩
set_option maxHeartbeats 4000000 in
set_option maxRecDepth 100000 in
theorem parse_c (w : World) (h : Suf w) : Calls Tryz.prog 18 #[.string ⟨#[49, 75]⟩] w fun e w' => e = .returned (.tuple #[.int .i64 0, .int .i64 30]) ∧ Below w.heap.size w w' := by
  have H : Aside (Suf w) := h
  clear h
  go_enter Tryz.func18, Tryz.ntmps18
  go_wp2_with fail
  refine (cut_at ⟨#[49, 75]⟩ ⟨#[49]⟩ ⟨#[75]⟩ (by decide) (by rfl) (by decide) (by decide) w).mono ?_
  rintro e w1 ⟨rfl, hb⟩
  have B1 : Aside (Below w.heap.size w w1) := hb
  clear hb
  go_wp2_with fail
  refine (Tryz.strings_CutPrefix ⟨#[75]⟩ ⟨#[46]⟩ w1).mono ?_
  rintro e w1 ⟨rfl, rfl⟩
  rw [show Lib.trimPrefix (⟨#[75]⟩ : ByteArray).data.toList (⟨#[46]⟩ : ByteArray).data.toList = [75] by decide, show Lib.hasPrefix (⟨#[75]⟩ : ByteArray).data.toList (⟨#[46]⟩ : ByteArray).data.toList = false by decide]
  go_wp2_with fail
  have B2 := B1
  obtain ⟨w2, hw2⟩ : ∃ w2, w2 = w1 := ⟨_, rfl⟩
  rw [← hw2] at B2 ⊢
  clear hw2
  refine (factor_K w2 (H.out.below B2.out)).mono ?_
  rintro e w3 ⟨rfl, hb⟩
  have B3 : Aside (Below w.heap.size w w3) := B2.out.trans (hb.mono B2.out.size)
  clear hb
  go_wp2_with fail
  go_ret2
  exact ⟨rfl, B3.out⟩
end Go.Proofs.YtmkdmfjdhajiaaaGreatDoor
