/-
  THE WALK of ScopeTexts.
-/
import Derived.Test.YthnhggonclkagaaDoorScF
import Derived.Test.YthnhggonclkagaaDoorScQ
namespace Go.Proofs.YthnhggonclkagaaDoor
open Go.RowKit
set_option maxHeartbeats 4000000 in
set_option maxRecDepth 100000 in
theorem scopeTexts_walk (t : ByteArray) (k a : Int) (w : World) (h : Nms w) (_ : t.size ≤ 140737488351232) (_ : -9223372036854775808 ≤ k ∧ k ≤ 9223372036854775807) (_ : -9223372036854775808 ≤ a ∧ a ≤ 9223372036854775807) :
    Calls Tryd.prog 6 #[.string t, .agg #[.int .i64 k, .int .i64 a]] w fun e w' => e = .returned (.bool true) ∧ Below w.heap.size w w' := by
  have H := Lib.hid h
  clear h
  have B0 : Hid (Below w.heap.size w (w.alloc (.cells #[.int .i64 k, .int .i64 a] 41))) := Lib.hid ((Below.refl _ w).alloc (Nat.le_refl _) _)
  have FX := Lib.hid (fixed_any _ (H.out.below B0.out))
  go_enter Tryd.func6, Tryd.ntmps6
  go_wp2_with fail
  refine FX.out.mono ?_
  rintro e w1 ⟨rfl, hb⟩
  have B1 : Hid (Below w.heap.size w w1) := Lib.hid (B0.out.trans (hb.mono B0.out.size))
  have d0 : w1.cell? ⟨w.heap.size, 0, none⟩ = some (.int .i64 k) := (hb.cell (p := ⟨w.heap.size, 0, none⟩) (by simp)).trans (by rw [World.cell?_alloc_new]; rfl)
  have d1 : w1.cell? ⟨w.heap.size, 1, none⟩ = some (.int .i64 a) := (hb.cell (p := ⟨w.heap.size, 1, none⟩) (by simp)).trans (by rw [World.cell?_alloc_new]; rfl)
  clear hb FX B0
  have PA := Lib.hid (parse_any t w1 (H.out.below B1.out))
  go_wp2_with fail
  refine PA.out.mono ?_
  rintro e w2 ⟨k1, a1, r1, rfl, hp1, hb⟩
  have P1 := Lib.hid hp1
  have B2 : Hid (Below w.heap.size w w2) := Lib.hid (B1.out.trans (hb.mono B1.out.size))
  have f0 : w2.cell? ⟨w.heap.size, 0, none⟩ = some (.int .i64 k) := (hb.cell (block_lt_of_cell d0)).trans d0
  have f1 : w2.cell? ⟨w.heap.size, 1, none⟩ = some (.int .i64 a) := (hb.cell (block_lt_of_cell d1)).trans d1
  clear hb PA d0 d1 hp1
  have RP := Lib.hid (fun o => refParse_any t (w2.alloc o))
  go_wp2_with fail
  refine (RP.out _).mono ?_
  rintro e w3 ⟨k2, a2, r2, rfl, hp2, hb⟩
  obtain ⟨rfl, rfl, rfl⟩ := P1.out.one hp2
  have B3 : Hid (Below w.heap.size w w3 ∧ w.heap.size ≤ w3.heap.size) := Lib.hid (by
    have q := B2.out.alloc B2.out.size (.cells #[.int .i64 k1, .int .i64 a1] 41)
    have q2 := q.trans (hb.mono q.size)
    exact ⟨q2, q2.size⟩)
  have g0 : w3.cell? ⟨w.heap.size, 0, none⟩ = some (.int .i64 k) := (hb.cell (block_lt_of_cell (cell_al f0 _))).trans (cell_al f0 _)
  have g1 : w3.cell? ⟨w.heap.size, 1, none⟩ = some (.int .i64 a) := (hb.cell (block_lt_of_cell (cell_al f1 _))).trans (cell_al f1 _)
  have h0 : w3.cell? ⟨w2.heap.size, 0, none⟩ = some (.int .i64 k1) := (hb.cell (p := ⟨w2.heap.size, 0, none⟩) (by simp)).trans (by rw [World.cell?_alloc_new]; rfl)
  have h1 : w3.cell? ⟨w2.heap.size, 1, none⟩ = some (.int .i64 a1) := (hb.cell (p := ⟨w2.heap.size, 1, none⟩) (by simp)).trans (by rw [World.cell?_alloc_new]; rfl)
  clear hb RP f0 f1 P1 hp2
  have h0' := cell_al h0
  have h1' := cell_al h1
  have g0' := cell_al g0
  have g1' := cell_al g1
  have BA : Hid (∀ o, Below w.heap.size w (w3.alloc o)) := Lib.hid fun o => B3.out.1.alloc B3.out.2 _
  obtain ⟨pt, hpt⟩ : ∃ pt, pt = prT k a := ⟨_, rfl⟩
  obtain ⟨pe, hpe⟩ : ∃ pe, pe = prE k a := ⟨_, rfl⟩
  have PR : Hid (∀ o, Calls Tryd.prog 23 #[.agg #[.int .i64 k, .int .i64 a]] (w3.alloc o) fun e w' => e = .returned (.tuple #[.string pt, .int .i64 pe]) ∧ Below (w3.alloc o).heap.size (w3.alloc o) w') := Lib.hid fun o => by rw [hpt, hpe]; exact print_any k a _ (H.out.below (BA.out o))
  have RR : Hid (∀ W, Calls Tryd.prog 24 #[.agg #[.int .i64 k, .int .i64 a]] W fun e w' => e = .returned (.tuple #[.string pt, .int .i64 pe]) ∧ Below W.heap.size W w') := Lib.hid fun W => by rw [hpt, hpe]; exact refPrint_any k a W
  clear hpt hpe g0 g1 h0 h1
  go_wp2_with fail
  refine (PR.out _).mono ?_
  rintro e w4 ⟨rfl, hb⟩
  have B4 : Hid (Below w.heap.size w w4) := Lib.hid ((BA.out _).trans (hb.mono (BA.out _).size))
  have m0 : w4.cell? ⟨w.heap.size, 0, none⟩ = some (.int .i64 k) := (hb.cell (block_lt_of_cell (g0' _))).trans (g0' _)
  have m1 : w4.cell? ⟨w.heap.size, 1, none⟩ = some (.int .i64 a) := (hb.cell (block_lt_of_cell (g1' _))).trans (g1' _)
  clear hb PR g0' g1' h0' h1'
  go_wp2_with fail
  refine (RR.out _).mono ?_
  rintro e w5 ⟨rfl, hb⟩
  have B5 : Hid (Below w.heap.size w w5) := Lib.hid (B4.out.trans (hb.mono B4.out.size))
  clear hb RR
  have ge : (pt.toList == pt.toList) = true := by simp
  go_wp2_with fail
  go_ret
  exact ⟨rfl, B5.out⟩
end Go.Proofs.YthnhggonclkagaaDoor
