/-
  read, at the pieces of the laws fixed text.
-/
import Derived.Test.YtjlpcklcnabldaaDoorLInv
namespace Go.Proofs.YtjlpcklcnabldaaDoor.L
open Go.RowKit
/-- A variable of the library's holds some number. -/
def HasM (w : World) : Prop := ∃ m, w.cell? ⟨0, 0, none⟩ = some (.int .i64 m)
theorem HasM.below {w w' : World} (h : HasM w) (hb : Below w.heap.size w w') : HasM w' := by
  obtain ⟨m, hm⟩ := h
  exact ⟨m, (hb.cell (block_lt_of_cell hm)).trans hm⟩
theorem below_drawn (w : World) (n : Nat) : Below w.heap.size w (w.drewN n) := ⟨rfl, rfl, rfl, Nat.le_refl _, fun _ _ => rfl⟩
theorem spl_xy : Lib.splitB ⟨#[32]⟩ 0 3 ⟨#[120, 32, 121]⟩ = [⟨#[120]⟩, ⟨#[121]⟩] := by kernel_rfl
theorem cut_in : Lib.cut (⟨#[97, 32, 105, 110, 32, 40, 120, 32, 121, 41]⟩ : ByteArray).data.toList (⟨#[32, 105, 110, 32, 40]⟩ : ByteArray).data.toList = ([97], [120, 32, 121, 41], true) := by kernel_rfl
theorem cells_xy : Lib.cellsOf [⟨#[120]⟩, ⟨#[121]⟩] 4 = #[.string ⟨#[120]⟩, .string ⟨#[121]⟩, .string ⟨#[]⟩, .string ⟨#[]⟩] := by kernel_rfl
set_option maxHeartbeats 2000000 in
theorem readList_k (w : World) (hm : HasM w) : Calls Tryd.prog 31 #[.string ⟨#[97]⟩, .int .i64 0, .string ⟨#[120, 32, 121, 41]⟩] w fun e w' => ∃ g, e = .returned (.tuple #[.agg #[.string ⟨#[97]⟩, .int .i64 0, .slice (some ⟨g, 0, none⟩) 2 4], .bool true]) ∧ w.heap.size ≤ g ∧ w'.cell? ⟨g, 0, none⟩ = some (.string ⟨#[120]⟩) ∧ w'.cell? ⟨g, 1, none⟩ = some (.string ⟨#[121]⟩) ∧ Below w.heap.size w w' := by
  have H := Lib.hid hm
  clear hm
  go_enter Tryd.func31, Tryd.ntmps31
  go_wp2_with fail
  refine (Tryd.strings_CutSuffix ⟨#[120, 32, 121, 41]⟩ ⟨#[41]⟩ _ (by decide)).mono ?_
  rintro e w1 ⟨rfl, rfl⟩
  rw [show Lib.trimSuffix (⟨#[120, 32, 121, 41]⟩ : ByteArray).data.toList (⟨#[41]⟩ : ByteArray).data.toList = [120, 32, 121] by decide, show Lib.hasSuffix (⟨#[120, 32, 121, 41]⟩ : ByteArray).data.toList (⟨#[41]⟩ : ByteArray).data.toList = true by decide]
  have HM := Lib.hid (H.out.below ((Below.refl _ w).alloc (Nat.le_refl _) (.cells #[.string ⟨#[]⟩, .int .i64 0, .slice none 0 0] 36)))
  go_wp2_with fail
  obtain ⟨m, hm⟩ := HM.out
  refine (Tryd.strings_SplitN ⟨#[120, 32, 121]⟩ ⟨#[32]⟩ 9 m _ (by decide) hm (by decide) (by decide) (by decide)).mono ?_
  rintro e w2 ⟨rfl, hw2⟩
  rw [show min 9 ((⟨#[120, 32, 121]⟩ : ByteArray).size + 1) = 4 by decide, show (4 - 1) = 3 from rfl, spl_xy] at *
  rw [cells_xy] at hw2
  subst hw2
  simp only [World.size_alloc, List.length_cons, List.length_nil]
  go_wp2_with fail
  refine bodyPost_ret (v := .tuple #[.agg #[.string ⟨#[97]⟩, .int .i64 0, .slice (some ⟨w.heap.size + 1, 0, none⟩) 2 4], .bool true]) ?_ rfl ?_
  · rw [results_cell_tmp rfl]
    go_simp
  · exact ⟨w.heap.size + 1, rfl, Nat.le_succ _, by go_simp, by go_simp, ((Below.refl _ w).alloc (Nat.le_refl _) _).alloc (by simp) _⟩
set_option maxHeartbeats 2000000 in
theorem read_a (w : World) (hm : HasM w) : Calls Tryd.prog 21 #[.string ⟨#[97, 32, 105, 110, 32, 40, 120, 32, 121, 41]⟩] w fun e w' => ∃ g, e = .returned (.tuple #[.agg #[.string ⟨#[97]⟩, .int .i64 0, .slice (some ⟨g, 0, none⟩) 2 4], .bool true]) ∧ w.heap.size ≤ g ∧ w'.cell? ⟨g, 0, none⟩ = some (.string ⟨#[120]⟩) ∧ w'.cell? ⟨g, 1, none⟩ = some (.string ⟨#[121]⟩) ∧ Below w.heap.size w w' := by
  have H := Lib.hid hm
  clear hm
  go_enter Tryd.func21, Tryd.ntmps21
  go_wp2_with fail
  refine (Tryd.strings_CutPrefix ⟨#[97, 32, 105, 110, 32, 40, 120, 32, 121, 41]⟩ ⟨#[33]⟩ _).mono ?_
  rintro e w1 ⟨rfl, rfl⟩
  rw [show Lib.trimPrefix (⟨#[97, 32, 105, 110, 32, 40, 120, 32, 121, 41]⟩ : ByteArray).data.toList (⟨#[33]⟩ : ByteArray).data.toList = [97, 32, 105, 110, 32, 40, 120, 32, 121, 41] by decide, show Lib.hasPrefix (⟨#[97, 32, 105, 110, 32, 40, 120, 32, 121, 41]⟩ : ByteArray).data.toList (⟨#[33]⟩ : ByteArray).data.toList = false by decide]
  have HM := Lib.hid (H.out.below ((Below.refl _ w).alloc (Nat.le_refl _) (.cells #[.string ⟨#[]⟩, .int .i64 0, .slice none 0 0] 36)))
  go_wp2_with fail
  obtain ⟨m, hm⟩ := HM.out
  refine (Tryd.strings_Cut ⟨#[97, 32, 105, 110, 32, 40, 120, 32, 121, 41]⟩ ⟨#[32, 105, 110, 32, 40]⟩ m _ (by decide) hm).mono ?_
  rintro e w2 ⟨rfl, nd, rfl⟩
  rw [cut_in]
  clear hm
  go_wp2_with fail
  refine (readList_k _ (HM.out.below (below_drawn _ nd))).mono ?_
  rintro e w3 ⟨g, rfl, hg, s0, s1, hb⟩
  have hg' : w.heap.size < g := Nat.lt_of_lt_of_le (by simp) hg
  have c0 : (w3.cell? ⟨w.heap.size, 0, none⟩).isSome = true := by
    rw [hb.cell (p := ⟨w.heap.size, 0, none⟩) (by simp)]
    go_simp
  have f0 : w3.frozen? ⟨w.heap.size, 0, none⟩ = false := by
    rw [hb.frozen (p := ⟨w.heap.size, 0, none⟩) (by simp)]
    go_simp
  have k0 : w3.cell? ⟨w.heap.size, 0, none⟩ = some (.string ⟨#[]⟩) := (hb.cell (p := ⟨w.heap.size, 0, none⟩) (by simp)).trans (by go_simp)
  have k1 : w3.cell? ⟨w.heap.size, 1, none⟩ = some (.int .i64 0) := (hb.cell (p := ⟨w.heap.size, 1, none⟩) (by simp)).trans (by go_simp)
  have k2 : w3.cell? ⟨w.heap.size, 2, none⟩ = some (.slice none 0 0) := (hb.cell (p := ⟨w.heap.size, 2, none⟩) (by simp)).trans (by go_simp)
  have f1 : w3.frozen? ⟨w.heap.size, 1, none⟩ = false := (hb.frozen (p := ⟨w.heap.size, 1, none⟩) (by simp)).trans (by go_simp)
  have f2 : w3.frozen? ⟨w.heap.size, 2, none⟩ = false := (hb.frozen (p := ⟨w.heap.size, 2, none⟩) (by simp)).trans (by go_simp)
  have B3 := Lib.hid (((Below.refl _ w).alloc (Nat.le_refl _) (.cells #[.string ⟨#[]⟩, .int .i64 0, .slice none 0 0] 36)).trans (((below_drawn _ nd).trans hb).mono (by simp)))
  clear hb c0 hg
  go_wp2_with fail
  refine bodyPost_ret (v := .tuple #[.agg #[.string ⟨#[97]⟩, .int .i64 0, .slice (some ⟨g, 0, none⟩) 2 4], .bool true]) ?_ rfl ?_
  · rw [results_cell_tmp rfl]
    go_simp
  · refine ⟨g, rfl, Nat.le_of_lt hg', ?_, ?_, ((B3.out.setCell (p := ⟨w.heap.size, 0, none⟩) (Nat.le_refl _) _).setCell (p := ⟨w.heap.size, 1, none⟩) (Nat.le_refl _) _).setCell (p := ⟨w.heap.size, 2, none⟩) (Nat.le_refl _) _⟩
    · rw [World.cell?_setCell_other _ _ _ _ (by intro h; injection h; omega), World.cell?_setCell_other _ _ _ _ (by intro h; injection h; omega), World.cell?_setCell_other _ _ _ _ (by intro h; injection h; omega)]
      exact s0
    · rw [World.cell?_setCell_other _ _ _ _ (by intro h; injection h; omega), World.cell?_setCell_other _ _ _ _ (by intro h; injection h; omega), World.cell?_setCell_other _ _ _ _ (by intro h; injection h; omega)]
      exact s1
set_option maxHeartbeats 2000000 in
theorem read_b (w : World) : Calls Tryd.prog 21 #[.string ⟨#[33, 98]⟩] w fun e w' => e = .returned (.tuple #[.agg #[.string ⟨#[98]⟩, .int .i64 3, .slice none 0 0], .bool true]) ∧ Below w.heap.size w w' := by
  go_enter Tryd.func21, Tryd.ntmps21
  go_wp2_with fail
  refine (Tryd.strings_CutPrefix ⟨#[33, 98]⟩ ⟨#[33]⟩ _).mono ?_
  rintro e w1 ⟨rfl, rfl⟩
  rw [show Lib.trimPrefix (⟨#[33, 98]⟩ : ByteArray).data.toList (⟨#[33]⟩ : ByteArray).data.toList = [98] by decide, show Lib.hasPrefix (⟨#[33, 98]⟩ : ByteArray).data.toList (⟨#[33]⟩ : ByteArray).data.toList = true by decide]
  go_wp2_with fail
  refine bodyPost_ret (v := .tuple #[.agg #[.string ⟨#[98]⟩, .int .i64 3, .slice none 0 0], .bool true]) ?_ rfl ?_
  · rw [results_cell_tmp rfl]
    go_simp
  · exact ⟨rfl, (Below.refl _ w).alloc (Nat.le_refl _) _⟩
end Go.Proofs.YtjlpcklcnabldaaDoor.L
