/-
  Block.
-/
import Derived.Test.YtfljbipnjfciaabWaF
namespace Go.Proofs.Ytfljbipnjfciaab
open Go.RowKit Go.Maps
theorem row_cell {W : World} {g i : Nat} {cs : Array Value} {t : TypeId} {u : Value} (h : W.heap[g]? = some (.cells cs t (0, 0))) (hu : cs[i]? = some u) : W.cell? ⟨g, i, none⟩ = some u := by rw [cell_of_row W g i _ _ _ h]; exact hu
set_option maxRecDepth 100000 in
set_option maxHeartbeats 2000000 in
theorem blk_no (g : Grp) (v : Value) (p : List UInt8) (w : World) (hv : Bytes w v p) (hva : valG g = false) :
    Calls Try.prog 7 #[.agg g.arr, v] w fun e w' => e = .returned (.tuple #[.slice none 0 0, .int .i64 1]) ∧ Below w.heap.size w w' := by
  obtain ⟨a, cap, rfl, hlc, hcm, _, _⟩ := hv
  unfold maxLen at hcm
  have BB := Lib.hid (box_below w g)
  have VA : Hid (∀ W, Below w.heap.size w W → Calls Try.prog 28 #[.agg g.arr] W fun e w' => e = .returned (.bool false) ∧ Below w.heap.size w w') := Lib.hid (fun W hb => by
    refine (valid_any g W).mono ?_
    rintro e w' ⟨rfl, hb2⟩
    exact ⟨by rw [hva], hb.trans (hb2.mono hb.size)⟩)
  obtain ⟨ep, st, ix, tot, by_⟩ := g
  unfold Grp.arr at BB VA ⊢
  simp only at BB VA ⊢
  clear hva
  go_enter Try.func7, Try.ntmps7
  go_wp2_with fail
  refine (VA.out _ BB.out).mono ?_
  rintro e w2 ⟨rfl, hb2⟩
  have B2 := Lib.hid hb2
  clear hb2
  go_wp2_with fail
  go_ret2
  exact ⟨rfl, B2.out⟩
set_option maxRecDepth 100000 in
set_option maxHeartbeats 2000000 in
theorem blk_len (g : Grp) (v : Value) (p : List UInt8) (w : World) (hv : Bytes w v p) (hva : valG g = true) (hne : (p.length : Int) ≠ shG g) :
    Calls Try.prog 7 #[.agg g.arr, v] w fun e w' => e = .returned (.tuple #[.slice none 0 0, .int .i64 1]) ∧ Below w.heap.size w w' := by
  obtain ⟨a, cap, rfl, hlc, hcm, _, _⟩ := hv
  unfold maxLen at hcm
  have VA : Hid (∀ W, Calls Try.prog 28 #[.agg g.arr] W fun e w' => e = .returned (.bool true) ∧ Below W.heap.size W w') := Lib.hid (fun W => by rw [← hva]; exact valid_any g W)
  have SH : Hid (∀ W, Calls Try.prog 29 #[.agg g.arr] W fun e w' => e = .returned (.int .i64 (shG g)) ∧ Below W.heap.size W w') := Lib.hid (fun W => share_any g ((val_iff g).1 hva) W)
  obtain ⟨sh, hsh⟩ : ∃ sh, sh = shG g := ⟨_, rfl⟩
  rw [← hsh] at SH hne
  obtain ⟨pl, hpl⟩ : ∃ pl, pl = p.length := ⟨_, rfl⟩
  rw [← hpl] at hlc hne ⊢
  have d : decide ((pl : Int) ≠ sh) = true := decide_eq_true hne
  obtain ⟨ep, st, ix, tot, by_⟩ := g
  unfold Grp.arr at VA SH ⊢
  simp only at VA SH ⊢
  obtain ⟨X, hX⟩ : ∃ X, X = w.alloc (.cells #[.int .i64 ep, .int .i64 st, .int .i64 ix, .int .i64 tot, .int .i64 by_] 23) := ⟨_, rfl⟩
  have BX : Hid (Below w.heap.size w X) := Lib.hid (by rw [hX]; exact (Below.refl _ _).alloc (Nat.le_refl _) _)
  have HX : Hid (X.heap[w.heap.size]? = some (.cells #[.int .i64 ep, .int .i64 st, .int .i64 ix, .int .i64 tot, .int .i64 by_] 23 (0, 0))) := Lib.hid (by rw [hX]; exact heap_alloc_new _ _)
  have x0 : X.cell? ⟨w.heap.size, 0, none⟩ = some (.int .i64 ep) := row_cell HX.out rfl
  have x1 : X.cell? ⟨w.heap.size, 1, none⟩ = some (.int .i64 st) := row_cell HX.out rfl
  have x2 : X.cell? ⟨w.heap.size, 2, none⟩ = some (.int .i64 ix) := row_cell HX.out rfl
  have x3 : X.cell? ⟨w.heap.size, 3, none⟩ = some (.int .i64 tot) := row_cell HX.out rfl
  have x4 : X.cell? ⟨w.heap.size, 4, none⟩ = some (.int .i64 by_) := row_cell HX.out rfl
  have hX' := hX.symm
  clear hX hva hsh
  go_enter Try.func7, Try.ntmps7
  go_wp2_with fail
  refine (VA.out _).mono ?_
  rintro e w2 ⟨rfl, hb2⟩
  have B2 : Hid (Below w.heap.size w w2) := Lib.hid (BX.out.trans (hb2.mono BX.out.size))
  have H2 : Hid (w2.heap[w.heap.size]? = some (.cells #[.int .i64 ep, .int .i64 st, .int .i64 ix, .int .i64 tot, .int .i64 by_] 23 (0, 0))) := Lib.hid (by rw [hb2.block _ (lt_of_heap HX.out)]; exact HX.out)
  have y0 : w2.cell? ⟨w.heap.size, 0, none⟩ = some (.int .i64 ep) := row_cell H2.out rfl
  have y1 : w2.cell? ⟨w.heap.size, 1, none⟩ = some (.int .i64 st) := row_cell H2.out rfl
  have y2 : w2.cell? ⟨w.heap.size, 2, none⟩ = some (.int .i64 ix) := row_cell H2.out rfl
  have y3 : w2.cell? ⟨w.heap.size, 3, none⟩ = some (.int .i64 tot) := row_cell H2.out rfl
  have y4 : w2.cell? ⟨w.heap.size, 4, none⟩ = some (.int .i64 by_) := row_cell H2.out rfl
  clear hb2 x0 x1 x2 x3 x4 hX'
  go_wp2_with fail
  refine (SH.out _).mono ?_
  rintro e w3 ⟨rfl, hb3⟩
  have B3 : Hid (Below w.heap.size w w3) := Lib.hid (B2.out.trans (hb3.mono B2.out.size))
  have H3 : Hid (w3.heap[w.heap.size]? = some (.cells #[.int .i64 ep, .int .i64 st, .int .i64 ix, .int .i64 tot, .int .i64 by_] 23 (0, 0))) := Lib.hid (by rw [hb3.block _ (lt_of_heap H2.out)]; exact H2.out)
  have z0 : w3.cell? ⟨w.heap.size, 0, none⟩ = some (.int .i64 ep) := row_cell H3.out rfl
  have z1 : w3.cell? ⟨w.heap.size, 1, none⟩ = some (.int .i64 st) := row_cell H3.out rfl
  have z2 : w3.cell? ⟨w.heap.size, 2, none⟩ = some (.int .i64 ix) := row_cell H3.out rfl
  have z3 : w3.cell? ⟨w.heap.size, 3, none⟩ = some (.int .i64 tot) := row_cell H3.out rfl
  have z4 : w3.cell? ⟨w.heap.size, 4, none⟩ = some (.int .i64 by_) := row_cell H3.out rfl
  clear hb3 y0 y1 y2 y3 y4
  go_wp2_with fail
  go_ret2
  exact ⟨rfl, B3.out⟩
set_option maxRecDepth 100000 in
set_option maxHeartbeats 2000000 in
theorem blk_with (g : Grp) (v : Value) (p lb : List UInt8) (w : World) (hv : Bytes w v p) (hva : valG g = true) (hne : (p.length : Int) = shG g)
    (LA : Hid (∀ W, Below w.heap.size w W → Calls Try.prog 30 #[.agg g.arr, v] W fun r w' => ∃ gb, r = .returned (.slice (some ⟨gb, 0, none⟩) 512 512) ∧ Own w.heap.size w' (.slice (some ⟨gb, 0, none⟩) 512 512) lb ∧ Below w.heap.size w w')) :
    Calls Try.prog 7 #[.agg g.arr, v] w fun e w' => ∃ gb, e = .returned (.tuple #[.slice (some ⟨gb, 0, none⟩) 512 512, .int .i64 0]) ∧ Own w.heap.size w' (.slice (some ⟨gb, 0, none⟩) 512 512) lb ∧ Below w.heap.size w w' := by
  obtain ⟨a, cap, rfl, hlc, hcm, _, _⟩ := hv
  unfold maxLen at hcm
  have VA : Hid (∀ W, Calls Try.prog 28 #[.agg g.arr] W fun e w' => e = .returned (.bool true) ∧ Below W.heap.size W w') := Lib.hid (fun W => by rw [← hva]; exact valid_any g W)
  have SH : Hid (∀ W, Calls Try.prog 29 #[.agg g.arr] W fun e w' => e = .returned (.int .i64 (p.length : Int)) ∧ Below W.heap.size W w') := Lib.hid (fun W => by rw [hne]; exact share_any g ((val_iff g).1 hva) W)
  have hsh := hva
  clear hne
  obtain ⟨pl, hpl⟩ : ∃ pl, pl = p.length := ⟨_, rfl⟩
  rw [← hpl] at hlc SH LA ⊢
  clear hpl
  obtain ⟨ep, st, ix, tot, by_⟩ := g
  unfold Grp.arr at VA SH LA ⊢
  simp only at VA SH LA ⊢
  obtain ⟨X, hX⟩ : ∃ X, X = w.alloc (.cells #[.int .i64 ep, .int .i64 st, .int .i64 ix, .int .i64 tot, .int .i64 by_] 23) := ⟨_, rfl⟩
  have BX : Hid (Below w.heap.size w X) := Lib.hid (by rw [hX]; exact (Below.refl _ _).alloc (Nat.le_refl _) _)
  have HX : Hid (X.heap[w.heap.size]? = some (.cells #[.int .i64 ep, .int .i64 st, .int .i64 ix, .int .i64 tot, .int .i64 by_] 23 (0, 0))) := Lib.hid (by rw [hX]; exact heap_alloc_new _ _)
  have x0 : X.cell? ⟨w.heap.size, 0, none⟩ = some (.int .i64 ep) := row_cell HX.out rfl
  have x1 : X.cell? ⟨w.heap.size, 1, none⟩ = some (.int .i64 st) := row_cell HX.out rfl
  have x2 : X.cell? ⟨w.heap.size, 2, none⟩ = some (.int .i64 ix) := row_cell HX.out rfl
  have x3 : X.cell? ⟨w.heap.size, 3, none⟩ = some (.int .i64 tot) := row_cell HX.out rfl
  have x4 : X.cell? ⟨w.heap.size, 4, none⟩ = some (.int .i64 by_) := row_cell HX.out rfl
  have hX' := hX.symm
  clear hX hva hsh
  go_enter Try.func7, Try.ntmps7
  go_wp2_with fail
  refine (VA.out _).mono ?_
  rintro e w2 ⟨rfl, hb2⟩
  have B2 : Hid (Below w.heap.size w w2) := Lib.hid (BX.out.trans (hb2.mono BX.out.size))
  have H2 : Hid (w2.heap[w.heap.size]? = some (.cells #[.int .i64 ep, .int .i64 st, .int .i64 ix, .int .i64 tot, .int .i64 by_] 23 (0, 0))) := Lib.hid (by rw [hb2.block _ (lt_of_heap HX.out)]; exact HX.out)
  have y0 : w2.cell? ⟨w.heap.size, 0, none⟩ = some (.int .i64 ep) := row_cell H2.out rfl
  have y1 : w2.cell? ⟨w.heap.size, 1, none⟩ = some (.int .i64 st) := row_cell H2.out rfl
  have y2 : w2.cell? ⟨w.heap.size, 2, none⟩ = some (.int .i64 ix) := row_cell H2.out rfl
  have y3 : w2.cell? ⟨w.heap.size, 3, none⟩ = some (.int .i64 tot) := row_cell H2.out rfl
  have y4 : w2.cell? ⟨w.heap.size, 4, none⟩ = some (.int .i64 by_) := row_cell H2.out rfl
  clear hb2 x0 x1 x2 x3 x4 hX'
  go_wp2_with fail
  refine (SH.out _).mono ?_
  rintro e w3 ⟨rfl, hb3⟩
  have B3 : Hid (Below w.heap.size w w3) := Lib.hid (B2.out.trans (hb3.mono B2.out.size))
  have H3 : Hid (w3.heap[w.heap.size]? = some (.cells #[.int .i64 ep, .int .i64 st, .int .i64 ix, .int .i64 tot, .int .i64 by_] 23 (0, 0))) := Lib.hid (by rw [hb3.block _ (lt_of_heap H2.out)]; exact H2.out)
  have z0 : w3.cell? ⟨w.heap.size, 0, none⟩ = some (.int .i64 ep) := row_cell H3.out rfl
  have z1 : w3.cell? ⟨w.heap.size, 1, none⟩ = some (.int .i64 st) := row_cell H3.out rfl
  have z2 : w3.cell? ⟨w.heap.size, 2, none⟩ = some (.int .i64 ix) := row_cell H3.out rfl
  have z3 : w3.cell? ⟨w.heap.size, 3, none⟩ = some (.int .i64 tot) := row_cell H3.out rfl
  have z4 : w3.cell? ⟨w.heap.size, 4, none⟩ = some (.int .i64 by_) := row_cell H3.out rfl
  clear hb3 y0 y1 y2 y3 y4
  go_wp2_with fail
  refine (LA.out _ B3.out).mono ?_
  rintro e w4 ⟨gb, rfl, h1, h2⟩
  have F4 := Lib.hid (And.intro h1 h2)
  clear h1 h2
  go_wp2_with fail
  go_ret2
  exact ⟨gb, rfl, F4.out.1, F4.out.2⟩
theorem blk_ok (g : Grp) (v : Value) (p : List UInt8) (w : World) (hv : Bytes w v p) (hva : valG g = true) (hne : (p.length : Int) = shG g) :
    Calls Try.prog 7 #[.agg g.arr, v] w fun e w' => ∃ gb, e = .returned (.tuple #[.slice (some ⟨gb, 0, none⟩) 512 512, .int .i64 0]) ∧ Own w.heap.size w' (.slice (some ⟨gb, 0, none⟩) 512 512) (layB g p) ∧ Below w.heap.size w w' := by
  have hp : p.length ≤ 464 := by unfold shG at hne; omega
  refine blk_with g v p (layB g p) w hv hva hne (Lib.hid (fun W hb => ?_))
  refine (lay_any g ((val_iff g).1 hva) v p hp W (hv.below hb)).mono ?_
  rintro e w' ⟨gb, rfl, h1, h2⟩
  exact ⟨gb, rfl, h1.mono hb.size, hb.trans (h2.mono hb.size)⟩
end Go.Proofs.Ytfljbipnjfciaab
