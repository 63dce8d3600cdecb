/-
  lay.
-/
import Derived.Test.YtfljbipnjfciaabWaC
namespace Go.Proofs.Ytfljbipnjfciaab
open Go.RowKit Go.Maps
/-- A group of naturals. -/
abbrev grp (e s i t y : Nat) : Grp := ⟨(e : Int), (s : Int), (i : Int), (t : Int), (y : Int)⟩
theorem Val.nat {g : Grp} (h : Val g) : ∃ e s i t y : Nat, g = grp e s i t y := by
  obtain ⟨ep, st, ix, tot, by_⟩ := g
  obtain ⟨h1, h2, h3, h4, h5, h6, h7, h8, h9, h10⟩ := h
  simp only at *
  exact ⟨ep.toNat, st.toNat, ix.toNat, tot.toNat, by_.toNat, by unfold grp; congr 1 <;> omega⟩
structure Ly (w W : World) (gx gb : Nat) (g : Grp) (L : List UInt8) : Prop where
  ne : gx ≠ gb
  lo : w.heap.size ≤ gx ∧ w.heap.size ≤ gb
  bx : W.heap[gx]? = some (.cells g.arr 23 (0, 0))
  bb : W.heap[gb]? = some (.cells (cells8 L).toArray 5 (0, 0))
  bl : Below w.heap.size w W
theorem Ly.drew {w W : World} {gx gb : Nat} {g : Grp} {L : List UInt8} (h : Ly w W gx gb g L) : Ly w W.drew gx gb g L := ⟨h.ne, h.lo, h.bx, h.bb, ⟨h.bl.os, h.bl.tape, h.bl.output, h.bl.size, h.bl.block⟩⟩
theorem Ly.upd {w W W' : World} {gx gb : Nat} {g : Grp} {L L' : List UInt8} (h : Ly w W gx gb g L) (hk : Kept (fun k => k = gb) W W') (hb : W'.heap[gb]? = some (.cells (cells8 L').toArray 5 (0, 0))) : Ly w W' gx gb g L' :=
  ⟨h.ne, h.lo, by rw [hk.block _ (lt_of_heap h.bx) h.ne]; exact h.bx, hb, h.bl.trans (hk.below h.bl.size (fun x hx => by rw [hx]; exact h.lo.2))⟩
theorem Ly.fld {w W : World} {gx gb : Nat} {g : Grp} {L : List UInt8} (h : Ly w W gx gb g L) (k : Nat) : W.cell? ⟨gx, k, none⟩ = g.arr[k]? := cell_of_row W gx k _ _ _ h.bx
theorem ly_put {w W : World} {gx gb : Nat} {g : Grp} {L : List UInt8} (h : Ly w W gx gb g L) (off n cap x : Nat) (hn : n ≤ 8) (hc : n ≤ cap) (hm : cap ≤ maxLen) (hL : off + n ≤ L.length) (hx : x < 18446744073709551616) :
    Calls Try.prog 65 #[.slice (some ⟨gb, off, none⟩) n cap, .int .u64 (x : Int)] W.drew fun e w' => e = .returned (.tuple #[]) ∧ Ly w w' gx gb g (splice L off (leB n x)) := by
  refine (put_any gb off n cap x L W.drew h.drew.bb hn hc hm hL hx).mono ?_
  rintro e w' ⟨rfl, h1, h2⟩
  exact ⟨rfl, h.drew.upd h2 h1⟩
theorem ly_put' {w W : World} {gx gb : Nat} {g : Grp} {L : List UInt8} (h : Ly w W gx gb g L) (off n cap x : Nat) (hn : n ≤ 8) (hc : n ≤ cap) (hm : cap ≤ maxLen) (hL : off + n ≤ L.length) (hx : x < 18446744073709551616) :
    Calls Try.prog 65 #[.slice (some ⟨gb, off, none⟩) n cap, .int .u64 (x : Int)] W fun e w' => e = .returned (.tuple #[]) ∧ Ly w w' gx gb g (splice L off (leB n x)) := by
  refine (put_any gb off n cap x L W h.bb hn hc hm hL hx).mono ?_
  rintro e w' ⟨rfl, h1, h2⟩
  exact ⟨rfl, h.upd h2 h1⟩
theorem Ly.below {w W W' : World} {gx gb : Nat} {g : Grp} {L : List UInt8} (h : Ly w W gx gb g L) (hb : Below W.heap.size W W') : Ly w W' gx gb g L :=
  ⟨h.ne, h.lo, by rw [hb.block _ (lt_of_heap h.bx)]; exact h.bx, by rw [hb.block _ (lt_of_heap h.bb)]; exact h.bb, h.bl.trans (hb.mono h.bl.size)⟩
theorem Ly.bytes {w W : World} {gx gb : Nat} {g : Grp} {L : List UInt8} (h : Ly w W gx gb g L) (hL : L.length = 512) (a n : Nat) (hn : a + n ≤ 512) : Bytes W (.slice (some ⟨gb, a, none⟩) n (512 - a)) ((L.drop a).take n) := by
  have ho : Own w.heap.size W (.slice (some ⟨gb, 0, none⟩) 512 512) L := own_of h.bb h.lo.2 hL (by decide)
  have hb := ho.bytes
  have hb' : Bytes W (.slice (some ⟨gb, 0, none⟩) L.length 512) L := by rw [hL]; exact hb
  have hd := hb'.drop a (by rw [hL]; omega)
  rw [← List.length_drop] at hd
  have ht := hd.take n (by rw [List.length_drop, hL]; omega)
  simp only [Option.map_some, add_plain, Nat.zero_add] at ht
  exact ht
set_option maxHeartbeats 8000000 in
set_option maxRecDepth 100000 in
theorem lay_nat (e s i t y : Nat) (he : e ≤ 1152921504606846976) (hs : s ≤ 1152921504606846976) (hi : i < 512) (ht : t ≤ 512) (hy : y ≤ 237568) (v : Value) (p : List UInt8) (hp : p.length ≤ 464) (w : World) (hv : Bytes w v p) :
    Calls Try.prog 30 #[.agg (grp e s i t y).arr, v] w fun r w' => ∃ gb, r = .returned (.slice (some ⟨gb, 0, none⟩) 512 512) ∧ Own w.heap.size w' (.slice (some ⟨gb, 0, none⟩) 512 512) (layB (grp e s i t y) p) ∧ Below w.heap.size w w' := by
  obtain ⟨G, hG⟩ : ∃ G, G = grp e s i t y := ⟨_, rfl⟩
  rw [← hG]
  have V := Lib.hid hv
  obtain ⟨av, cap, rfl, hlc, hcm, hnv, _⟩ := hv
  have HNV := Lib.hid hnv
  unfold maxLen at hcm
  obtain ⟨pl, hpl⟩ : ∃ pl, pl = p.length := ⟨_, rfl⟩
  rw [← hpl] at hlc hp ⊢
  have PL := Lib.hid hpl
  have LN := Lib.hid (ly_len G p (by rw [← hpl]; exact hp))
  have EQ := Lib.hid (ly8_eq G p (by rw [← hpl]; exact hp))
  have L0 : Hid (ly1 G = splice ly0 2 (leB 2 i) ∧ ly2 G = splice (ly1 G) 4 (leB 2 t) ∧ ly3 G = splice (ly2 G) 8 (leB 8 e) ∧ ly4 G = splice (ly3 G) 16 (leB 8 s) ∧ ly5 G = splice (ly4 G) 24 (leB 4 y)) := Lib.hid (by rw [hG]; exact ⟨rfl, rfl, rfl, rfl, rfl⟩)
  have GA : Hid (G.arr = #[.int .i64 (e : Int), .int .i64 (s : Int), .int .i64 (i : Int), .int .i64 (t : Int), .int .i64 (y : Int)]) := Lib.hid (by rw [hG]; rfl)
  rw [GA.out]
  have we : IntKind.u64.wrap (e : Int) = (e : Int) := by rw [IntKind.wrap_u64]; omega
  have ws : IntKind.u64.wrap (s : Int) = (s : Int) := by rw [IntKind.wrap_u64]; omega
  have wi : IntKind.u64.wrap (i : Int) = (i : Int) := by rw [IntKind.wrap_u64]; omega
  have wt : IntKind.u64.wrap (t : Int) = (t : Int) := by rw [IntKind.wrap_u64]; omega
  have wy : IntKind.u64.wrap (y : Int) = (y : Int) := by rw [IntKind.wrap_u64]; omega
  obtain ⟨R, hR⟩ : ∃ R : List UInt8, R = List.replicate 512 0 := ⟨_, rfl⟩
  have RL : R.length = 512 := by rw [hR, List.length_replicate]
  have LY0 : ly0 = (R.set 0 183).set 1 1 := by rw [hR]; rfl
  have e183 : (Value.int .u8 183) = .int .u8 (c8 183) := rfl
  have e1 : (Value.int .u8 1) = .int .u8 (c8 1) := rfl
  obtain ⟨gx, hgx⟩ : ∃ gx, gx = w.heap.size := ⟨_, rfl⟩
  obtain ⟨gb, hgb⟩ : ∃ gb, gb = w.heap.size + 1 := ⟨_, rfl⟩
  obtain ⟨X0, hX0⟩ : ∃ X0, X0 = w.alloc (.cells #[.int .i64 (e : Int), .int .i64 (s : Int), .int .i64 (i : Int), .int .i64 (t : Int), .int .i64 (y : Int)] 23) := ⟨_, rfl⟩
  have sX : X0.heap.size = gb := by rw [hX0, hgb]; simp
  obtain ⟨Y, hY⟩ : ∃ Y, Y = X0.alloc (.cells (madeCells #[.int .u8 0] 512) 5) := ⟨_, rfl⟩
  have hm : (Instr.makeSlice 24 (.int .i64 512) (.int .i64 512)).run Try.prog X0 = .ok (.slice (some ⟨gb, 0, none⟩) 512 512) Y := by rw [hY, ← sX]; exact make_bytes X0 512 512 rfl rfl (Nat.le_refl _) (by decide)
  have Yb : Y.heap[gb]? = some (.cells (cells8 R).toArray 5 (0, 0)) := by rw [hY, ← sX, heap_alloc_new, made_zeros, hR]
  have Yx : Y.heap[gx]? = some (.cells G.arr 23 (0, 0)) := by
    rw [hY, Below.heap_alloc _ _ _ (by rw [sX]; omega), hX0, hgx, GA.out]
    exact heap_alloc_new _ _
  have YY : Hid (Ly w Y gx gb G R) := Lib.hid ⟨by omega, by omega, Yx, Yb, by
    rw [hY, hX0]
    exact ((Below.refl _ _).alloc (Nat.le_refl _) _).alloc (by simp) _⟩
  obtain ⟨Z1, hZ1⟩ : ∃ Z1, Z1 = Y.setCell ⟨gb, 0, none⟩ (.int .u8 183) := ⟨_, rfl⟩
  obtain ⟨Z2, hZ2⟩ : ∃ Z2, Z2 = Z1.setCell ⟨gb, 1, none⟩ (.int .u8 1) := ⟨_, rfl⟩
  have set_cells : ∀ (L : List UInt8) (k : Nat) (c : UInt8), (cells8 L).toArray.setIfInBounds k (.int .u8 (c8 c)) = (cells8 (L.set k c)).toArray := fun L k c => by
    apply Array.ext'
    rw [Array.toList_setIfInBounds]
    unfold cells8
    rw [List.map_set]
  have Z1b : Z1.heap[gb]? = some (.cells (cells8 (R.set 0 183)).toArray 5 (0, 0)) := by rw [hZ1, heap_setCell_same _ _ _ _ _ _ Yb, e183, set_cells]
  have c0 : ∃ u, Y.cell? ⟨gb, 0, none⟩ = some u := by rw [cell_of_row _ _ _ _ _ _ Yb]; exact ⟨_, Array.getElem?_eq_getElem (by rw [List.size_toArray, cells8_length, RL]; omega)⟩
  have c1 : ∃ u, Z1.cell? ⟨gb, 1, none⟩ = some u := by rw [cell_of_row _ _ _ _ _ _ Z1b]; exact ⟨_, Array.getElem?_eq_getElem (by rw [List.size_toArray, cells8_length, List.length_set, RL]; omega)⟩
  have f0 : Y.frozen? ⟨gb, 0, none⟩ = false := frozen_of_row _ _ _ _ _ Yb
  have f1 : Z1.frozen? ⟨gb, 1, none⟩ = false := frozen_of_row _ _ _ _ _ Z1b
  obtain ⟨u0, c0⟩ := c0
  obtain ⟨u1, c1⟩ := c1
  have H0 : Hid (Ly w Z2 gx gb G ly0) := Lib.hid (by
    have q1 := YY.out.upd (L' := R.set 0 183) (kept_set (F := fun k => k = gb) Y _ _ rfl) (by rw [← hZ1]; exact Z1b)
    rw [← hZ1] at q1
    rw [hZ2]
    refine q1.upd (kept_set (F := fun k => k = gb) Z1 _ _ rfl) ?_
    rw [heap_setCell_same _ _ _ _ _ _ Z1b, e1, set_cells, LY0])
  have hX0' := hX0.symm
  have hZ1' := hZ1.symm
  have hZ2' := hZ2.symm
  have KS : Hid (∀ {W : World} {L : List UInt8}, Ly w W gx gb G L → W.cell? ⟨gx, 0, none⟩ = some (.int .i64 (e : Int)) ∧ W.cell? ⟨gx, 1, none⟩ = some (.int .i64 (s : Int)) ∧ W.cell? ⟨gx, 2, none⟩ = some (.int .i64 (i : Int)) ∧ W.cell? ⟨gx, 3, none⟩ = some (.int .i64 (t : Int)) ∧ W.cell? ⟨gx, 4, none⟩ = some (.int .i64 (y : Int))) := Lib.hid (fun h => ⟨by rw [h.fld 0, GA.out]; rfl, by rw [h.fld 1, GA.out]; rfl, by rw [h.fld 2, GA.out]; rfl, by rw [h.fld 3, GA.out]; rfl, by rw [h.fld 4, GA.out]; rfl⟩)
  have GX := Lib.hid (And.intro hgx hgb)
  have hgx' := hgx.symm
  clear hR RL LY0 e183 e1 hG hpl hnv hX0 hY hZ1 hZ2 Yb Yx Z1b set_cells YY hgb sX hgx
  go_enter Try.func30, Try.ntmps30
  go_wp2_with fail
  have PU : Hid (Calls Try.prog 65 #[.slice (some ⟨gb, 2, none⟩) 2 510, .int .u64 (i : Int)] Z2.drew fun r w' => r = .returned (.tuple #[]) ∧ Ly w w' gx gb G (ly1 G)) := Lib.hid (by rw [L0.out.1]; exact ly_put H0.out 2 2 510 i (by decide) (by decide) (by decide) (by rw [LN.out.1]; decide) (by omega))
  go_region_held (fun W : World => W.cell? ⟨gx, 2, none⟩ = some (.int .i64 (i : Int))) (first | exact (KS.out h1).2.2.1 | exact (KS.out H0.out.drew).2.2.1) (first | (go_at_call 65; refine PU.out.mono ?_; rintro r w1 ⟨rfl, h1⟩))
  have H1 := Lib.hid h1
  clear h1 PU H0
  have PU : Hid (Calls Try.prog 65 #[.slice (some ⟨gb, 4, none⟩) 2 508, .int .u64 (t : Int)] w1.drew fun r w' => r = .returned (.tuple #[]) ∧ Ly w w' gx gb G (ly2 G)) := Lib.hid (by rw [L0.out.2.1]; exact ly_put H1.out 4 2 508 t (by decide) (by decide) (by decide) (by rw [LN.out.2.1]; decide) (by omega))
  go_wp2_with fail
  go_region_held (fun W : World => W.cell? ⟨gx, 3, none⟩ = some (.int .i64 (t : Int))) (first | exact (KS.out h2).2.2.2.1 | exact (KS.out H1.out.drew).2.2.2.1) (first | (go_at_call 65; refine PU.out.mono ?_; rintro r w2 ⟨rfl, h2⟩))
  have H2 := Lib.hid h2
  clear h2 PU H1
  have PU : Hid (Calls Try.prog 65 #[.slice (some ⟨gb, 8, none⟩) 8 504, .int .u64 (e : Int)] w2.drew fun r w' => r = .returned (.tuple #[]) ∧ Ly w w' gx gb G (ly3 G)) := Lib.hid (by rw [L0.out.2.2.1]; exact ly_put H2.out 8 8 504 e (by decide) (by decide) (by decide) (by rw [LN.out.2.2.1]; decide) (by omega))
  go_wp2_with fail
  go_region_held (fun W : World => W.cell? ⟨gx, 0, none⟩ = some (.int .i64 (e : Int))) (first | exact (KS.out h3).1 | exact (KS.out H2.out.drew).1) (first | (go_at_call 65; refine PU.out.mono ?_; rintro r w3 ⟨rfl, h3⟩))
  have H3 := Lib.hid h3
  clear h3 PU H2
  have PU : Hid (Calls Try.prog 65 #[.slice (some ⟨gb, 16, none⟩) 8 496, .int .u64 (s : Int)] w3.drew fun r w' => r = .returned (.tuple #[]) ∧ Ly w w' gx gb G (ly4 G)) := Lib.hid (by rw [L0.out.2.2.2.1]; exact ly_put H3.out 16 8 496 s (by decide) (by decide) (by decide) (by rw [LN.out.2.2.2.1]; decide) (by omega))
  go_wp2_with fail
  go_region_held (fun W : World => W.cell? ⟨gx, 1, none⟩ = some (.int .i64 (s : Int))) (first | exact (KS.out h4).2.1 | exact (KS.out H3.out.drew).2.1) (first | (go_at_call 65; refine PU.out.mono ?_; rintro r w4 ⟨rfl, h4⟩))
  have H4 := Lib.hid h4
  clear h4 PU H3
  have PU : Hid (Calls Try.prog 65 #[.slice (some ⟨gb, 24, none⟩) 4 488, .int .u64 (y : Int)] w4.drew fun r w' => r = .returned (.tuple #[]) ∧ Ly w w' gx gb G (ly5 G)) := Lib.hid (by rw [L0.out.2.2.2.2]; exact ly_put H4.out 24 4 488 y (by decide) (by decide) (by decide) (by rw [LN.out.2.2.2.2.1]; decide) (by omega))
  go_wp2_with fail
  go_region_held (fun W : World => W.cell? ⟨gx, 4, none⟩ = some (.int .i64 (y : Int))) (first | exact (KS.out h5).2.2.2.2 | exact (KS.out H4.out.drew).2.2.2.2) (first | (go_at_call 65; refine PU.out.mono ?_; rintro r w5 ⟨rfl, h5⟩))
  have H5 := Lib.hid h5
  clear h5 PU H4
  have SRC : Hid (0 < (cells8 p).length → ∃ ad, av = some ad ∧ ∀ j v, (cells8 p)[j]? = some v → w5.cell? (ad.add j) = some v) := Lib.hid ((V.out.below H5.out.bl).src (fun _ h => ⟨h, rfl⟩))
  have FIT : Hid (32 + (cells8 p).length ≤ (cells8 (ly5 G)).length) := Lib.hid (by rw [cells8_length, cells8_length, LN.out.2.2.2.2.2.1, ← PL.out]; omega)
  have MIN : Hid ((cells8 p).length = Nat.min pl 464) := Lib.hid (by rw [cells8_length, ← PL.out]; show pl = min pl 464; omega)
  have ONE : Hid (∀ v ∈ cells8 p, v.oneCell' = true) := Lib.hid (cells8_one p)
  obtain ⟨cs, hcs⟩ : ∃ cs, cs = cells8 p := ⟨_, rfl⟩
  rw [← hcs] at SRC FIT MIN ONE
  have HCS := Lib.hid hcs
  clear hcs
  go_wp2_with (refine copy_kept rfl (.tmp 42) (.tmp 43) rfl _ _ _ _ _ _ rfl rfl gb 32 _ 5 H5.out.bb cs MIN.out (fun h => ⟨rfl, SRC.out h⟩) FIT.out ONE.out ?_)
  intro w6 K6
  have H6 : Hid (Ly w w6 gx gb G (ly6 G p)) := Lib.hid (H5.out.upd K6.out.2 (by rw [K6.out.1, HCS.out, splice_cells]; rfl))
  clear SRC FIT MIN ONE HCS K6 H5
  have SRC : Hid (∀ j v, (cells8 (((ly6 G p).drop 8).take 16))[j]? = some v → w6.cell? ((⟨gb, 8, none⟩ : Addr).add j) = some v) := Lib.hid (src_row H6.out.bb (fun j hj => by
    rw [cells8_length, List.length_take, List.length_drop, LN.out.2.2.2.2.2.2.1] at hj
    unfold cells8
    rw [List.getElem?_map, List.getElem?_map, List.getElem?_take_of_lt (by omega), List.getElem?_drop]))
  have FIT : Hid (496 + (cells8 (((ly6 G p).drop 8).take 16)).length ≤ (cells8 (ly6 G p)).length) := Lib.hid (by rw [cells8_length, cells8_length, List.length_take, List.length_drop, LN.out.2.2.2.2.2.2.1]; omega)
  have MIN : Hid ((cells8 (((ly6 G p).drop 8).take 16)).length = Nat.min 16 16) := Lib.hid (by rw [cells8_length, List.length_take, List.length_drop, LN.out.2.2.2.2.2.2.1]; rfl)
  have ONE : Hid (∀ v ∈ cells8 (((ly6 G p).drop 8).take 16), v.oneCell' = true) := Lib.hid (cells8_one _)
  obtain ⟨cs, hcs⟩ : ∃ cs, cs = cells8 (((ly6 G p).drop 8).take 16) := ⟨_, rfl⟩
  rw [← hcs] at SRC FIT MIN ONE
  have HCS := Lib.hid hcs
  clear hcs
  go_wp2_with fail
  go_region_law (refine step_copy_kept rfl (.tmp 46) (.tmp 48) rfl _ _ _ _ _ _ rfl rfl gb 496 _ 5 H6.out.bb cs MIN.out (fun _ => ⟨rfl, _, rfl, SRC.out⟩) FIT.out ONE.out ?_; intro w7 K7)
  have H7 : Hid (Ly w w7 gx gb G (ly7 G p)) := Lib.hid (H6.out.drew.upd K7.out.2 (by rw [K7.out.1, HCS.out, splice_cells]; rfl))
  clear SRC FIT MIN ONE HCS K7 H6
  obtain ⟨C, hC⟩ : ∃ C, C = crc ((ly7 G p).take 28 ++ (ly7 G p).drop 32) := ⟨_, rfl⟩
  have hC32 : C < 4294967296 := by rw [hC]; exact crc_lt _
  have CC := Lib.hid hC
  have wC : IntKind.u64.wrap (C : Int) = (C : Int) := by rw [IntKind.wrap_u64]; omega
  obtain ⟨X7, hX7⟩ : ∃ X7, X7 = w7.drew.alloc (.cells #[.slice (some ⟨gb, 0, none⟩) 28 512, .slice (some ⟨gb, 32, none⟩) 480 480] 24) := ⟨_, rfl⟩
  have HX : Hid (Ly w X7 gx gb G (ly7 G p)) := Lib.hid (by rw [hX7]; exact H7.out.drew.below ((Below.refl _ _).alloc (Nat.le_refl _) _))
  have cx : ∀ k, X7.cell? ⟨w7.heap.size, k, none⟩ = (#[.slice (some ⟨gb, 0, none⟩) 28 512, .slice (some ⟨gb, 32, none⟩) 480 480] : Array Value)[k]? := fun k => by rw [hX7]; exact World.cell?_alloc_new _ _ _ _
  have PA : Hid (Calls Try.prog 68 #[.slice (some ⟨w7.heap.size, 0, none⟩) 2 2] X7 fun r w' => r = .returned (.int .u32 (C : Int)) ∧ Ly w w' gx gb G (ly7 G p)) := Lib.hid (by
    have b1 := HX.out.bytes LN.out.2.2.2.2.2.2.2 0 28 (by omega)
    have b2 := HX.out.bytes LN.out.2.2.2.2.2.2.2 32 480 (by omega)
    rw [List.drop_zero] at b1
    have e2 : ((ly7 G p).drop 32).take 480 = (ly7 G p).drop 32 := List.take_of_length_le (by rw [List.length_drop, LN.out.2.2.2.2.2.2.2]; omega)
    rw [e2] at b2
    refine (parts2_any w7.heap.size _ _ _ _ X7 b1 b2 (cx 0) (cx 1)).mono ?_
    rintro r w' ⟨rfl, hb⟩
    exact ⟨by rw [← CC.out], HX.out.below hb⟩)
  have PU : Hid (∀ W, Ly w W gx gb G (ly7 G p) → Calls Try.prog 65 #[.slice (some ⟨gb, 28, none⟩) 4 484, .int .u64 (C : Int)] W fun r w' => r = .returned (.tuple #[]) ∧ Ly w w' gx gb G (ly8 G p)) := Lib.hid (fun W h => by
    have e : ly8 G p = splice (ly7 G p) 28 (leB 4 C) := by rw [CC.out]; rfl
    rw [e]
    exact ly_put' h 28 4 484 C (by decide) (by decide) (by decide) (by rw [LN.out.2.2.2.2.2.2.2]; decide) (by omega))
  have hX7' := hX7.symm
  clear hX7 hC cx
  go_wp2_with fail
  go_region_held (fun _ : World => True) (exact trivial) (first | (go_at_call 68; refine PA.out.mono ?_; rintro r w8 ⟨rfl, h8⟩) | (go_at_call 65; refine (PU.out _ h8).mono ?_; rintro r w9 ⟨rfl, h9⟩))
  have H9 := Lib.hid h9
  clear h9 h8 PA PU HX H7 hX7'
  go_wp2_with fail
  go_ret
  refine ⟨gb, rfl, ?_, H9.out.bl⟩
  rw [← EQ.out]
  exact own_of H9.out.bb H9.out.lo.2 (by rw [EQ.out]; exact layB_length G p (by rw [← PL.out]; exact hp)) (by decide)
theorem lay_any (g : Grp) (hg : Val g) (v : Value) (p : List UInt8) (hp : p.length ≤ 464) (w : World) (hv : Bytes w v p) :
    Calls Try.prog 30 #[.agg g.arr, v] w fun r w' => ∃ gb, r = .returned (.slice (some ⟨gb, 0, none⟩) 512 512) ∧ Own w.heap.size w' (.slice (some ⟨gb, 0, none⟩) 512 512) (layB g p) ∧ Below w.heap.size w w' := by
  obtain ⟨e, s, i, t, y, rfl⟩ := hg.nat
  have h1 := hg.e2; have h2 := hg.s2; have h3 := hg.i2; have h4 := hg.t2; have h5 := hg.b2
  simp only at h1 h2 h3 h4 h5
  exact lay_nat e s i t y (by omega) (by omega) (by omega) (by omega) (by omega) v p hp w hv
end Go.Proofs.Ytfljbipnjfciaab
