/-
  The document's Encode.
-/
import Derived.Test.YthjekiddjldehaaArV
import Derived.Test.YthjekiddjldehaaArC
import Derived.Test.YthjekiddjldehaaAnE
namespace Go.Proofs.Ythjekiddjldehaa
open Go.RowKit Go.Maps
theorem set8r (w : World) (g k : Nat) (l : List UInt8) (c : UInt8) (h : w.heap[g]? = some (.cells (cells8 l).toArray 5 (0, 0))) : (w.setCell ⟨g, k, none⟩ (.int .u8 (c8 c))).heap[g]? = some (.cells (cells8 (l.set k c)).toArray 5 (0, 0)) := by
  rw [heap_setCell_same _ _ _ _ _ _ h]
  congr 2
  apply Array.ext'
  rw [Array.toList_setIfInBounds]
  unfold cells8
  rw [List.map_set]
theorem rly_put {w W : World} {gx gb : Nat} {s : Sup} {L : List UInt8} (h : Ly w W gx gb s L) (o n x : Nat) (hn : n ≤ 8) (hL : L.length = 512) (ho : o + n ≤ 512) (hx : x < 9223372036854775808) :
    Calls Try.prog 53 #[.slice (some ⟨gb, 0, none⟩) 512 512, .int .i64 (o : Int), .int .i64 (x : Int), .int .i64 (n : Int)] W fun e w' => e = .returned (.tuple #[]) ∧ Ly w w' gx gb s (splice L o (leB n x)) := by
  refine (rput_any gb o n x L W h.bb hn hL ho hx).mono ?_
  rintro e w' ⟨rfl, h1, h2⟩
  exact ⟨rfl, h.upd h2 h1⟩
set_option maxHeartbeats 8000000 in
set_option maxRecDepth 100000 in
theorem renc_nat (g e b l t a r c v : Nat) (hg : g ≤ 1152921500311879680) (he : e ≤ 1152921500311879680) (hb : b ≤ 4096) (hl : l ≤ 512) (ht : t ≤ 1152921500311879680) (ha : a ≤ 512) (hr : r ≤ 4096) (hc : c ≤ 1152921500311879680) (hv : v ≤ 1152921500311879680) (hva : vaB (sup g e b l t a r c v) (b : Int) = true) (w : World) :
    Calls Try.prog 26 #[.agg (sup g e b l t a r c v).arr] w fun q w' => ∃ gb, q = .returned (.tuple #[.slice (some ⟨gb, 0, none⟩) 512 512, .int .i64 0]) ∧ Own w.heap.size w' (.slice (some ⟨gb, 0, none⟩) 512 512) (layA (sup g e b l t a r c v)) ∧ Below w.heap.size w w' := by
  obtain ⟨G, hG⟩ : ∃ G, G = sup g e b l t a r c v := ⟨_, rfl⟩
  rw [← hG] at hva ⊢
  have LN := Lib.hid (la_len G)
  have EQ := Lib.hid (la12_eq G)
  have L0 : Hid (la1 G = splice la0 4 (leB 4 1) ∧ la2 G = splice (la1 G) 8 (leB 8 g) ∧ la3 G = splice (la2 G) 16 (leB 8 e) ∧ la4 G = splice (la3 G) 24 (leB 4 b) ∧ la5 G = splice (la4 G) 28 (leB 4 l) ∧ la6 G = splice (la5 G) 32 (leB 8 t) ∧ la7 G = splice (la6 G) 40 (leB 4 a) ∧ la8 G = splice (la7 G) 44 (leB 4 r) ∧ la9 G = splice (la8 G) 48 (leB 8 c) ∧ la10 G = splice (la9 G) 56 (leB 8 v) ∧ la11 G = splice (la10 G) 504 (leB 8 g)) := Lib.hid (by rw [hG]; exact ⟨rfl, rfl, rfl, rfl, rfl, rfl, rfl, rfl, rfl, rfl, rfl⟩)
  have GA : Hid (G.arr = #[.int .i64 (g : Int), .int .i64 (e : Int), .int .i64 (b : Int), .int .i64 (l : Int), .int .i64 (t : Int), .int .i64 (a : Int), .int .i64 (r : Int), .int .i64 (c : Int), .int .i64 (v : Int)]) := Lib.hid (by rw [hG]; rfl)
  rw [GA.out]
  obtain ⟨R, hR⟩ : ∃ R : List UInt8, R = List.replicate 512 0 := ⟨_, rfl⟩
  have RL : R.length = 512 := by rw [hR, List.length_replicate]
  have LA0 : la0 = (((R.set 0 66).set 1 83).set 2 65).set 3 82 := by rw [hR]; rfl
  obtain ⟨gx, hgx⟩ : ∃ gx, gx = w.heap.size := ⟨_, rfl⟩
  obtain ⟨X0, hX0⟩ : ∃ X0, X0 = w.alloc (.cells #[.int .i64 (g : Int), .int .i64 (e : Int), .int .i64 (b : Int), .int .i64 (l : Int), .int .i64 (t : Int), .int .i64 (a : Int), .int .i64 (r : Int), .int .i64 (c : Int), .int .i64 (v : Int)] 25) := ⟨_, rfl⟩
  have BX : Hid (Below w.heap.size w X0) := Lib.hid (by rw [hX0]; exact (Below.refl _ _).alloc (Nat.le_refl _) _)
  have GX : Hid (X0.heap[gx]? = some (.cells G.arr 25 (0, 0))) := Lib.hid (by rw [hX0, hgx, GA.out]; exact heap_alloc_new _ _)
  have VA : Hid (Calls Try.prog 27 #[.agg #[.int .i64 (g : Int), .int .i64 (e : Int), .int .i64 (b : Int), .int .i64 (l : Int), .int .i64 (t : Int), .int .i64 (a : Int), .int .i64 (r : Int), .int .i64 (c : Int), .int .i64 (v : Int)], .int .i64 (b : Int)] X0 fun e w' => e = .returned (.bool true) ∧ Below X0.heap.size X0 w') := Lib.hid (by have := rvalid_any G (b : Int) X0; rw [hva, GA.out] at this; exact this)
  have KS : Hid (∀ {W : World} {gb : Nat} {L : List UInt8}, Ly w W gx gb G L → W.cell? ⟨gx, 0, none⟩ = some (.int .i64 (g : Int)) ∧ W.cell? ⟨gx, 1, none⟩ = some (.int .i64 (e : Int)) ∧ W.cell? ⟨gx, 2, none⟩ = some (.int .i64 (b : Int)) ∧ W.cell? ⟨gx, 3, none⟩ = some (.int .i64 (l : Int)) ∧ W.cell? ⟨gx, 4, none⟩ = some (.int .i64 (t : Int)) ∧ W.cell? ⟨gx, 5, none⟩ = some (.int .i64 (a : Int)) ∧ W.cell? ⟨gx, 6, none⟩ = some (.int .i64 (r : Int)) ∧ W.cell? ⟨gx, 7, none⟩ = some (.int .i64 (c : Int)) ∧ W.cell? ⟨gx, 8, none⟩ = some (.int .i64 (v : Int))) := Lib.hid (fun h => ⟨by rw [h.fld 0, GA.out]; rfl, by rw [h.fld 1, GA.out]; rfl, by rw [h.fld 2, GA.out]; rfl, by rw [h.fld 3, GA.out]; rfl, by rw [h.fld 4, GA.out]; rfl, by rw [h.fld 5, GA.out]; rfl, by rw [h.fld 6, GA.out]; rfl, by rw [h.fld 7, GA.out]; rfl, by rw [h.fld 8, GA.out]; rfl⟩)
  have q0 : X0.cell? ⟨gx, 0, none⟩ = some (.int .i64 (g : Int)) := by rw [cell_of_row _ _ _ _ _ _ GX.out, GA.out]; rfl
  have q1 : X0.cell? ⟨gx, 1, none⟩ = some (.int .i64 (e : Int)) := by rw [cell_of_row _ _ _ _ _ _ GX.out, GA.out]; rfl
  have q2 : X0.cell? ⟨gx, 2, none⟩ = some (.int .i64 (b : Int)) := by rw [cell_of_row _ _ _ _ _ _ GX.out, GA.out]; rfl
  have q3 : X0.cell? ⟨gx, 3, none⟩ = some (.int .i64 (l : Int)) := by rw [cell_of_row _ _ _ _ _ _ GX.out, GA.out]; rfl
  have q4 : X0.cell? ⟨gx, 4, none⟩ = some (.int .i64 (t : Int)) := by rw [cell_of_row _ _ _ _ _ _ GX.out, GA.out]; rfl
  have q5 : X0.cell? ⟨gx, 5, none⟩ = some (.int .i64 (a : Int)) := by rw [cell_of_row _ _ _ _ _ _ GX.out, GA.out]; rfl
  have q6 : X0.cell? ⟨gx, 6, none⟩ = some (.int .i64 (r : Int)) := by rw [cell_of_row _ _ _ _ _ _ GX.out, GA.out]; rfl
  have q7 : X0.cell? ⟨gx, 7, none⟩ = some (.int .i64 (c : Int)) := by rw [cell_of_row _ _ _ _ _ _ GX.out, GA.out]; rfl
  have q8 : X0.cell? ⟨gx, 8, none⟩ = some (.int .i64 (v : Int)) := by rw [cell_of_row _ _ _ _ _ _ GX.out, GA.out]; rfl
  have hX0' := hX0.symm
  have hgx' := hgx.symm
  have HGX := Lib.hid hgx
  clear hX0 hgx hG hva
  go_enter Try.func26, Try.ntmps26
  go_wp2_with fail
  refine VA.out.mono ?_
  rintro e w1 ⟨rfl, b1⟩
  have B1 := Lib.hid (And.intro (BX.out.trans (b1.mono BX.out.size)) ((b1.block gx (lt_of_heap GX.out)).trans GX.out))
  obtain ⟨gb, hgb⟩ : ∃ gb, gb = w1.heap.size := ⟨_, rfl⟩
  obtain ⟨Y, hY⟩ : ∃ Y, Y = w1.alloc (.cells (madeCells #[.int .u8 0] 512) 5) := ⟨_, rfl⟩
  have hm : (Instr.makeSlice 32 (.int .i64 512) (.int .i64 512)).run Try.prog w1 = .ok (.slice (some ⟨gb, 0, none⟩) 512 512) Y := by rw [hY, hgb]; exact make_bytes w1 512 512 rfl rfl (Nat.le_refl _) (by decide)
  have YY : Ly w Y gx gb G R := by
    have bY : Below w1.heap.size w1 Y := by rw [hY]; exact (Below.refl _ _).alloc (Nat.le_refl _) _
    have l1 := lt_of_heap B1.out.2
    refine ⟨by omega, ⟨by rw [HGX.out]; exact Nat.le_refl _, by have := B1.out.1.size; omega⟩, (bY.block gx l1).trans B1.out.2, by rw [hY, hgb, heap_alloc_new, made_zeros, hR], B1.out.1.trans (bY.mono B1.out.1.size)⟩
  obtain ⟨Z1, hZ1⟩ : ∃ Z, Z = Y.setCell ⟨gb, 0, none⟩ (.int .u8 66) := ⟨_, rfl⟩
  have c0 : ∃ u, Y.cell? ⟨gb, 0, none⟩ = some u := by rw [cell_of_row _ _ _ _ _ _ YY.bb]; exact ⟨_, Array.getElem?_eq_getElem (by simp only [List.size_toArray, cells8_length, RL]; omega)⟩
  have f0 : Y.frozen? ⟨gb, 0, none⟩ = false := frozen_of_row _ _ _ _ _ YY.bb
  have Z1Z1 : Ly w Z1 gx gb G (R.set 0 66) := by
    rw [hZ1]
    refine YY.upd (kept_set (F := fun k => k = gb) Y _ _ rfl) ?_
    exact set8r _ gb 0 _ 66 YY.bb
  obtain ⟨u0, c0⟩ := c0
  obtain ⟨Z2, hZ2⟩ : ∃ Z, Z = Z1.setCell ⟨gb, 1, none⟩ (.int .u8 83) := ⟨_, rfl⟩
  have c1 : ∃ u, Z1.cell? ⟨gb, 1, none⟩ = some u := by rw [cell_of_row _ _ _ _ _ _ Z1Z1.bb]; exact ⟨_, Array.getElem?_eq_getElem (by simp only [List.size_toArray, cells8_length, List.length_set, RL]; omega)⟩
  have f1 : Z1.frozen? ⟨gb, 1, none⟩ = false := frozen_of_row _ _ _ _ _ Z1Z1.bb
  have Z2Z2 : Ly w Z2 gx gb G ((R.set 0 66).set 1 83) := by
    rw [hZ2]
    refine Z1Z1.upd (kept_set (F := fun k => k = gb) Z1 _ _ rfl) ?_
    exact set8r _ gb 1 _ 83 Z1Z1.bb
  obtain ⟨u1, c1⟩ := c1
  obtain ⟨Z3, hZ3⟩ : ∃ Z, Z = Z2.setCell ⟨gb, 2, none⟩ (.int .u8 65) := ⟨_, rfl⟩
  have c2 : ∃ u, Z2.cell? ⟨gb, 2, none⟩ = some u := by rw [cell_of_row _ _ _ _ _ _ Z2Z2.bb]; exact ⟨_, Array.getElem?_eq_getElem (by simp only [List.size_toArray, cells8_length, List.length_set, RL]; omega)⟩
  have f2 : Z2.frozen? ⟨gb, 2, none⟩ = false := frozen_of_row _ _ _ _ _ Z2Z2.bb
  have Z3Z3 : Ly w Z3 gx gb G (((R.set 0 66).set 1 83).set 2 65) := by
    rw [hZ3]
    refine Z2Z2.upd (kept_set (F := fun k => k = gb) Z2 _ _ rfl) ?_
    exact set8r _ gb 2 _ 65 Z2Z2.bb
  obtain ⟨u2, c2⟩ := c2
  obtain ⟨Z4, hZ4⟩ : ∃ Z, Z = Z3.setCell ⟨gb, 3, none⟩ (.int .u8 82) := ⟨_, rfl⟩
  have c3 : ∃ u, Z3.cell? ⟨gb, 3, none⟩ = some u := by rw [cell_of_row _ _ _ _ _ _ Z3Z3.bb]; exact ⟨_, Array.getElem?_eq_getElem (by simp only [List.size_toArray, cells8_length, List.length_set, RL]; omega)⟩
  have f3 : Z3.frozen? ⟨gb, 3, none⟩ = false := frozen_of_row _ _ _ _ _ Z3Z3.bb
  have Z4Z4 : Ly w Z4 gx gb G ((((R.set 0 66).set 1 83).set 2 65).set 3 82) := by
    rw [hZ4]
    refine Z3Z3.upd (kept_set (F := fun k => k = gb) Z3 _ _ rfl) ?_
    exact set8r _ gb 3 _ 82 Z3Z3.bb
  obtain ⟨u3, c3⟩ := c3
  have H0 : Hid (Ly w Z4 gx gb G la0) := Lib.hid (by rw [LA0]; exact Z4Z4)
  have hZ1' := hZ1.symm
  have hZ2' := hZ2.symm
  have hZ3' := hZ3.symm
  have hZ4' := hZ4.symm
  clear hY hgb YY Z1Z1 Z2Z2 Z3Z3 Z4Z4 hZ1 hZ2 hZ3 hZ4 b1 LA0 RL hR q0 q1 q2 q3 q4 q5 q6 q7 q8 hX0' hgx' VA
  have PU : Hid (Calls Try.prog 53 #[.slice (some ⟨gb, 0, none⟩) 512 512, .int .i64 ((4 : Nat) : Int), .int .i64 ((1 : Nat) : Int), .int .i64 ((4 : Nat) : Int)] Z4 fun r w' => r = .returned (.tuple #[]) ∧ Ly w w' gx gb G (la1 G)) := Lib.hid (by rw [L0.out.1]; exact rly_put H0.out 4 4 1 (by decide) LN.out.1 (by decide) (by decide))
  go_wp2_with fail
  refine PU.out.mono ?_
  rintro r1 w2 ⟨rfl, h⟩
  have H1 := Lib.hid h
  clear h PU H0 hm hZ1' hZ2' hZ3' hZ4' c0 c1 c2 c3 f0 f1 f2 f3
  have PU : Hid (Calls Try.prog 53 #[.slice (some ⟨gb, 0, none⟩) 512 512, .int .i64 ((8 : Nat) : Int), .int .i64 (g : Int), .int .i64 ((8 : Nat) : Int)] w2 fun r w' => r = .returned (.tuple #[]) ∧ Ly w w' gx gb G (la2 G)) := Lib.hid (by rw [L0.out.2.1]; exact rly_put H1.out 8 8 g (by decide) LN.out.2.1 (by decide) (by omega))
  have zc := (KS.out H1.out).1
  go_wp2_with fail
  refine PU.out.mono ?_
  rintro r1 w3 ⟨rfl, h⟩
  have H2 := Lib.hid h
  clear h PU H1 zc
  have PU : Hid (Calls Try.prog 53 #[.slice (some ⟨gb, 0, none⟩) 512 512, .int .i64 ((16 : Nat) : Int), .int .i64 (e : Int), .int .i64 ((8 : Nat) : Int)] w3 fun r w' => r = .returned (.tuple #[]) ∧ Ly w w' gx gb G (la3 G)) := Lib.hid (by rw [L0.out.2.2.1]; exact rly_put H2.out 16 8 e (by decide) LN.out.2.2.1 (by decide) (by omega))
  have zc := (KS.out H2.out).2.1
  go_wp2_with fail
  refine PU.out.mono ?_
  rintro r1 w4 ⟨rfl, h⟩
  have H3 := Lib.hid h
  clear h PU H2 zc
  have PU : Hid (Calls Try.prog 53 #[.slice (some ⟨gb, 0, none⟩) 512 512, .int .i64 ((24 : Nat) : Int), .int .i64 (b : Int), .int .i64 ((4 : Nat) : Int)] w4 fun r w' => r = .returned (.tuple #[]) ∧ Ly w w' gx gb G (la4 G)) := Lib.hid (by rw [L0.out.2.2.2.1]; exact rly_put H3.out 24 4 b (by decide) LN.out.2.2.2.1 (by decide) (by omega))
  have zc := (KS.out H3.out).2.2.1
  go_wp2_with fail
  refine PU.out.mono ?_
  rintro r1 w5 ⟨rfl, h⟩
  have H4 := Lib.hid h
  clear h PU H3 zc
  have PU : Hid (Calls Try.prog 53 #[.slice (some ⟨gb, 0, none⟩) 512 512, .int .i64 ((28 : Nat) : Int), .int .i64 (l : Int), .int .i64 ((4 : Nat) : Int)] w5 fun r w' => r = .returned (.tuple #[]) ∧ Ly w w' gx gb G (la5 G)) := Lib.hid (by rw [L0.out.2.2.2.2.1]; exact rly_put H4.out 28 4 l (by decide) LN.out.2.2.2.2.1 (by decide) (by omega))
  have zc := (KS.out H4.out).2.2.2.1
  go_wp2_with fail
  refine PU.out.mono ?_
  rintro r1 w6 ⟨rfl, h⟩
  have H5 := Lib.hid h
  clear h PU H4 zc
  have PU : Hid (Calls Try.prog 53 #[.slice (some ⟨gb, 0, none⟩) 512 512, .int .i64 ((32 : Nat) : Int), .int .i64 (t : Int), .int .i64 ((8 : Nat) : Int)] w6 fun r w' => r = .returned (.tuple #[]) ∧ Ly w w' gx gb G (la6 G)) := Lib.hid (by rw [L0.out.2.2.2.2.2.1]; exact rly_put H5.out 32 8 t (by decide) LN.out.2.2.2.2.2.1 (by decide) (by omega))
  have zc := (KS.out H5.out).2.2.2.2.1
  go_wp2_with fail
  refine PU.out.mono ?_
  rintro r1 w7 ⟨rfl, h⟩
  have H6 := Lib.hid h
  clear h PU H5 zc
  have PU : Hid (Calls Try.prog 53 #[.slice (some ⟨gb, 0, none⟩) 512 512, .int .i64 ((40 : Nat) : Int), .int .i64 (a : Int), .int .i64 ((4 : Nat) : Int)] w7 fun r w' => r = .returned (.tuple #[]) ∧ Ly w w' gx gb G (la7 G)) := Lib.hid (by rw [L0.out.2.2.2.2.2.2.1]; exact rly_put H6.out 40 4 a (by decide) LN.out.2.2.2.2.2.2.1 (by decide) (by omega))
  have zc := (KS.out H6.out).2.2.2.2.2.1
  go_wp2_with fail
  refine PU.out.mono ?_
  rintro r1 w8 ⟨rfl, h⟩
  have H7 := Lib.hid h
  clear h PU H6 zc
  have PU : Hid (Calls Try.prog 53 #[.slice (some ⟨gb, 0, none⟩) 512 512, .int .i64 ((44 : Nat) : Int), .int .i64 (r : Int), .int .i64 ((4 : Nat) : Int)] w8 fun r w' => r = .returned (.tuple #[]) ∧ Ly w w' gx gb G (la8 G)) := Lib.hid (by rw [L0.out.2.2.2.2.2.2.2.1]; exact rly_put H7.out 44 4 r (by decide) LN.out.2.2.2.2.2.2.2.1 (by decide) (by omega))
  have zc := (KS.out H7.out).2.2.2.2.2.2.1
  go_wp2_with fail
  refine PU.out.mono ?_
  rintro r1 w9 ⟨rfl, h⟩
  have H8 := Lib.hid h
  clear h PU H7 zc
  have PU : Hid (Calls Try.prog 53 #[.slice (some ⟨gb, 0, none⟩) 512 512, .int .i64 ((48 : Nat) : Int), .int .i64 (c : Int), .int .i64 ((8 : Nat) : Int)] w9 fun r w' => r = .returned (.tuple #[]) ∧ Ly w w' gx gb G (la9 G)) := Lib.hid (by rw [L0.out.2.2.2.2.2.2.2.2.1]; exact rly_put H8.out 48 8 c (by decide) LN.out.2.2.2.2.2.2.2.2.1 (by decide) (by omega))
  have zc := (KS.out H8.out).2.2.2.2.2.2.2.1
  go_wp2_with fail
  refine PU.out.mono ?_
  rintro r1 w10 ⟨rfl, h⟩
  have H9 := Lib.hid h
  clear h PU H8 zc
  have PU : Hid (Calls Try.prog 53 #[.slice (some ⟨gb, 0, none⟩) 512 512, .int .i64 ((56 : Nat) : Int), .int .i64 (v : Int), .int .i64 ((8 : Nat) : Int)] w10 fun r w' => r = .returned (.tuple #[]) ∧ Ly w w' gx gb G (la10 G)) := Lib.hid (by rw [L0.out.2.2.2.2.2.2.2.2.2.1]; exact rly_put H9.out 56 8 v (by decide) LN.out.2.2.2.2.2.2.2.2.2.1 (by decide) (by omega))
  have zc := (KS.out H9.out).2.2.2.2.2.2.2.2
  go_wp2_with fail
  refine PU.out.mono ?_
  rintro r1 w11 ⟨rfl, h⟩
  have H10 := Lib.hid h
  clear h PU H9 zc
  have PU : Hid (Calls Try.prog 53 #[.slice (some ⟨gb, 0, none⟩) 512 512, .int .i64 ((504 : Nat) : Int), .int .i64 (g : Int), .int .i64 ((8 : Nat) : Int)] w11 fun r w' => r = .returned (.tuple #[]) ∧ Ly w w' gx gb G (la11 G)) := Lib.hid (by rw [L0.out.2.2.2.2.2.2.2.2.2.2]; exact rly_put H10.out 504 8 g (by decide) LN.out.2.2.2.2.2.2.2.2.2.2.1 (by decide) (by omega))
  have zc := (KS.out H10.out).1
  go_wp2_with fail
  refine PU.out.mono ?_
  rintro r1 w12 ⟨rfl, h⟩
  have H11 := Lib.hid h
  clear h PU H10 zc
  obtain ⟨C, hC⟩ : ∃ C, C = crc ((la11 G).take 500 ++ (la11 G).drop 504) := ⟨_, rfl⟩
  have hC32 : C < 4294967296 := by rw [hC]; exact crc_lt _
  have CC := Lib.hid hC
  have wC : IntKind.i64.wrap (C : Int) = (C : Int) := by rw [IntKind.wrap_i64]; omega
  have SO := Lib.hid (sumOf_any gb (la11 G) w12 (by have := H11.out.bytes LN.out.2.2.2.2.2.2.2.2.2.2.2 0 512 (by omega); rw [List.drop_zero, List.take_of_length_le (by rw [LN.out.2.2.2.2.2.2.2.2.2.2.2]; exact Nat.le_refl _)] at this; exact this) LN.out.2.2.2.2.2.2.2.2.2.2.2)
  rw [← hC] at SO
  clear hC
  go_wp2_with fail
  refine SO.out.mono ?_
  rintro r1 w13 ⟨rfl, e13⟩
  obtain rfl := e13.symm
  have PU : Hid (Calls Try.prog 53 #[.slice (some ⟨gb, 0, none⟩) 512 512, .int .i64 ((500 : Nat) : Int), .int .i64 (C : Int), .int .i64 ((4 : Nat) : Int)] w12 fun r w' => r = .returned (.tuple #[]) ∧ Ly w w' gx gb G (la12 G)) := Lib.hid (by
    have e : la12 G = splice (la11 G) 500 (leB 4 C) := by rw [CC.out]; rfl
    rw [e]
    exact rly_put H11.out 500 4 C (by decide) LN.out.2.2.2.2.2.2.2.2.2.2.2 (by decide) (by omega))
  clear SO
  go_wp2_with fail
  refine PU.out.mono ?_
  rintro r1 w14 ⟨rfl, h⟩
  have H13 := Lib.hid h
  clear h PU H11
  go_wp2_with fail
  go_ret2
  refine ⟨gb, rfl, ?_, H13.out.bl⟩
  rw [← EQ.out]
  exact own_of H13.out.bb H13.out.lo.2 (by rw [EQ.out]; exact layA_length G) (by decide)
set_option maxRecDepth 100000 in
theorem renc_yes (s : Sup) (w : World) (h : vaB s s.blk = true) : Calls Try.prog 26 #[.agg s.arr] w fun e w' => ∃ gb, e = .returned (.tuple #[.slice (some ⟨gb, 0, none⟩) 512 512, .int .i64 0]) ∧ Own w.heap.size w' (.slice (some ⟨gb, 0, none⟩) 512 512) (layA s) ∧ Below w.heap.size w w' := by
  have hs := (vd_iff s).1 h
  obtain ⟨g, e, b, l, t, a, r, c, v, rfl⟩ := hs.nat
  obtain ⟨b1, b2, l1, l2, lb, g1, g2, e1, e2, s1, s2, p1, v1, v2, r1⟩ := hs
  simp only at *
  have p2 : (a : Int) < (l : Int) := by rw [p1]; exact Int.emod_lt_of_pos _ (by omega)
  exact renc_nat g e b l t a r c v (by omega) (by omega) (by omega) (by omega) (by omega) (by omega) (by omega) (by omega) (by omega) h w
set_option maxRecDepth 100000 in
set_option maxHeartbeats 4000000 in
theorem renc_no (s : Sup) (w : World) (h : vaB s s.blk = false) : Calls Try.prog 26 #[.agg s.arr] w fun e w' => e = .returned (.tuple #[.slice none 0 0, .int .i64 1]) ∧ Below w.heap.size w w' := by
  obtain ⟨xgen, xep, xblk, xlog, xst, xpl, xrt, xcnt, xver⟩ := s
  have VA : Hid (∀ W, Calls Try.prog 27 #[.agg #[.int .i64 xgen, .int .i64 xep, .int .i64 xblk, .int .i64 xlog, .int .i64 xst, .int .i64 xpl, .int .i64 xrt, .int .i64 xcnt, .int .i64 xver], .int .i64 xblk] W fun e w' => e = .returned (.bool false) ∧ Below W.heap.size W w') := Lib.hid (fun W => by have := rvalid_any (Sup.mk xgen xep xblk xlog xst xpl xrt xcnt xver) xblk W; rw [h] at this; exact this)
  unfold Sup.arr
  simp only
  clear h
  go_enter Try.func26, Try.ntmps26
  go_wp2_with fail
  refine (VA.out _).mono ?_
  rintro e w1 ⟨rfl, b1⟩
  have B1 : Hid (Below w.heap.size w w1) := Lib.hid (((Below.refl _ _).alloc (Nat.le_refl _) _).trans (b1.mono (by simp)))
  clear b1
  go_wp2_with fail
  go_ret2
  exact ⟨rfl, B1.out⟩
end Go.Proofs.Ythjekiddjldehaa
