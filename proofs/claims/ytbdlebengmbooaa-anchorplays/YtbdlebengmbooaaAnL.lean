/-
  lay.
-/
import Derived.Test.YtbdlebengmbooaaAnV
import Derived.Test.YtbdlebengmbooaaCpy
import Derived.Lib.BufferWrite
import Derived.RegionTactic
import Derived.BigRegion
namespace Go.Proofs.Ytbdlebengmbooaa
open Go.RowKit Go.Maps
/-- A superblock of naturals. -/
abbrev sup (g e b l t a r c v : Nat) : Sup := ⟨(g : Int), (e : Int), (b : Int), (l : Int), (t : Int), (a : Int), (r : Int), (c : Int), (v : Int)⟩
theorem Vd.nat {s : Sup} (h : Vd s) : ∃ g e b l t a r c v : Nat, s = sup g e b l t a r c v := by
  obtain ⟨gen, ep, blk, log, st, pl, rt, cnt, ver⟩ := s
  obtain ⟨b1, b2, l1, l2, lb, g1, g2, e1, e2, s1, s2, p1, v1, v2, r1⟩ := h
  simp only at *
  have p0 : 0 ≤ pl := by rw [p1]; exact Int.emod_nonneg _ (by omega)
  exact ⟨gen.toNat, ep.toNat, blk.toNat, log.toNat, st.toNat, pl.toNat, rt.toNat, cnt.toNat, ver.toNat, by unfold sup; congr 1 <;> omega⟩
theorem copy_str {w : World} {ops : Array Oper} {rest : List Oper} {o : Oper} {a : Act} {Q : Exit → Act → World → Prop} (hgd : o.guard = none) (d : Operand) (t : ByteArray)
    (ho : o.op = .call { callee := .builtin .copy, args := #[d, .const (.string t)], argTypes := #[35, 9] })
    (g off dLen dCap : Nat) (hd : a.eval d = .slice (some ⟨g, off, none⟩) dLen dCap)
    (cur : List UInt8) (hg : w.heap[g]? = some (.cells (cells8 cur).toArray 5 (0, 0))) (hle : t.size ≤ dLen) (hfit : off + t.size ≤ cur.length)
    (h : ∀ w', Hid (w'.heap[g]? = some (.cells (cells8 (splice cur off t.data.toList)).toArray 5 (0, 0)) ∧ Kept (fun k => k = g) w w') → wpList Try.prog ops Q rest (a.put o.dst (goInt t.size)) w') :
    wpList Try.prog ops Q (o :: rest) a w := by
  refine wpList_plain hgd fun K hK => ?_
  have hrun := Lib.run_copy_row_string (P := Try.prog) w 35 9 o.type 5 g off dLen dCap t _ _ Try.underlying35 size_byte hg hle (by rw [List.size_toArray, cells8_length]; exact hfit)
  have hs : a.eval (.const (.string t)) = .string t := rfl
  have ec : (List.take off (cells8 cur).toArray.toList ++ Lib.byteCells t.data.toList ++ List.drop (off + t.size) (cells8 cur).toArray.toList) = cells8 (splice cur off t.data.toList) := by
    have eb : Lib.byteCells t.data.toList = cells8 t.data.toList := rfl
    have et : t.size = t.data.toList.length := by show t.data.size = _; rw [Array.length_toList]
    rw [eb, ← splice_cells, et]
    unfold splice
    rw [cells8_length]
    simp [List.append_assoc]
  rw [ec] at hrun
  unfold Oper.wp
  simp [execOp, ho, resolve, invoke, builtin, hd, hs, hrun, Result.andThen]
  exact hK _ _ (h _ ⟨setRow_heap w g _ _ _ _ hg, kept_setRow _ _ _⟩)
structure Ly (w W : World) (gx gb : Nat) (g : Sup) (L : List UInt8) : Prop where
  ne : gx ≠ gb
  lo : w.heap.size ≤ gx ∧ w.heap.size ≤ gb
  bx : W.heap[gx]? = some (.cells g.arr 34 (0, 0))
  bb : W.heap[gb]? = some (.cells (cells8 L).toArray 5 (0, 0))
  bl : Below w.heap.size w W
theorem Ly.drew {w W : World} {gx gb : Nat} {g : Sup} {L : List UInt8} (h : Ly w W gx gb g L) : Ly w W.drew gx gb g L := ⟨h.ne, h.lo, h.bx, h.bb, ⟨h.bl.os, h.bl.tape, h.bl.output, h.bl.size, h.bl.block⟩⟩
theorem Ly.upd {w W W' : World} {gx gb : Nat} {g : Sup} {L L' : List UInt8} (h : Ly w W gx gb g L) (hk : Kept (fun k => k = gb) W W') (hb : W'.heap[gb]? = some (.cells (cells8 L').toArray 5 (0, 0))) : Ly w W' gx gb g L' :=
  ⟨h.ne, h.lo, by rw [hk.block _ (lt_of_heap h.bx) h.ne]; exact h.bx, hb, h.bl.trans (hk.below h.bl.size (fun x hx => by rw [hx]; exact h.lo.2))⟩
theorem Ly.fld {w W : World} {gx gb : Nat} {g : Sup} {L : List UInt8} (h : Ly w W gx gb g L) (k : Nat) : W.cell? ⟨gx, k, none⟩ = g.arr[k]? := cell_of_row W gx k _ _ _ h.bx
theorem ly_put {w W : World} {gx gb : Nat} {g : Sup} {L : List UInt8} (h : Ly w W gx gb g L) (off n cap x : Nat) (hn : n ≤ 8) (hc : n ≤ cap) (hm : cap ≤ maxLen) (hL : off + n ≤ L.length) (hx : x < 18446744073709551616) :
    Calls Try.prog 50 #[.slice (some ⟨gb, off, none⟩) n cap, .int .u64 (x : Int)] W.drew fun e w' => e = .returned (.tuple #[]) ∧ Ly w w' gx gb g (splice L off (leB n x)) := by
  refine (put_any gb off n cap x L W.drew h.drew.bb hn hc hm hL hx).mono ?_
  rintro e w' ⟨rfl, h1, h2⟩
  exact ⟨rfl, h.drew.upd h2 h1⟩
theorem ly_put' {w W : World} {gx gb : Nat} {g : Sup} {L : List UInt8} (h : Ly w W gx gb g L) (off n cap x : Nat) (hn : n ≤ 8) (hc : n ≤ cap) (hm : cap ≤ maxLen) (hL : off + n ≤ L.length) (hx : x < 18446744073709551616) :
    Calls Try.prog 50 #[.slice (some ⟨gb, off, none⟩) n cap, .int .u64 (x : Int)] W fun e w' => e = .returned (.tuple #[]) ∧ Ly w w' gx gb g (splice L off (leB n x)) := by
  refine (put_any gb off n cap x L W h.bb hn hc hm hL hx).mono ?_
  rintro e w' ⟨rfl, h1, h2⟩
  exact ⟨rfl, h.upd h2 h1⟩
theorem Ly.below {w W W' : World} {gx gb : Nat} {g : Sup} {L : List UInt8} (h : Ly w W gx gb g L) (hb : Below W.heap.size W W') : Ly w W' gx gb g L :=
  ⟨h.ne, h.lo, by rw [hb.block _ (lt_of_heap h.bx)]; exact h.bx, by rw [hb.block _ (lt_of_heap h.bb)]; exact h.bb, h.bl.trans (hb.mono h.bl.size)⟩
theorem Ly.bytes {w W : World} {gx gb : Nat} {g : Sup} {L : List UInt8} (h : Ly w W gx gb g L) (hL : L.length = 512) (a n : Nat) (hn : a + n ≤ 512) : Bytes W (.slice (some ⟨gb, a, none⟩) n (512 - a)) ((L.drop a).take n) := by
  have ho : Own w.heap.size W (.slice (some ⟨gb, 0, none⟩) 512 512) L := own_of h.bb h.lo.2 hL (by decide)
  have hb := ho.bytes
  have hb' : Bytes W (.slice (some ⟨gb, 0, none⟩) L.length 512) L := by rw [hL]; exact hb
  have hd := hb'.drop a (by rw [hL]; omega)
  rw [← List.length_drop] at hd
  have ht := hd.take n (by rw [List.length_drop, hL]; omega)
  simp only [Option.map_some, add_plain, Nat.zero_add] at ht
  exact ht
set_option maxHeartbeats 8000000 in
set_option maxRecDepth 100000 in
theorem lay_nat (g e b l t a r c v : Nat) (hg : g ≤ 1152921500311879680) (he : e ≤ 1152921500311879680) (hb : b ≤ 4096) (hl : l ≤ 512) (ht : t ≤ 1152921500311879680) (ha : a ≤ 512) (hr : r ≤ 4096) (hc : c ≤ 1152921500311879680) (hv : v ≤ 1152921500311879680) (w : World) :
    Calls Try.prog 30 #[.agg (sup g e b l t a r c v).arr] w fun q w' => ∃ gb, q = .returned (.slice (some ⟨gb, 0, none⟩) 512 512) ∧ Own w.heap.size w' (.slice (some ⟨gb, 0, none⟩) 512 512) (layA (sup g e b l t a r c v)) ∧ Below w.heap.size w w' := by
  obtain ⟨G, hG⟩ : ∃ G, G = sup g e b l t a r c v := ⟨_, rfl⟩
  rw [← hG]
  have LN := Lib.hid (la_len G)
  have EQ := Lib.hid (la12_eq G)
  have L0 : Hid (la1 G = splice la0 4 (leB 4 1) ∧ la2 G = splice (la1 G) 8 (leB 8 g) ∧ la3 G = splice (la2 G) 16 (leB 8 e) ∧ la4 G = splice (la3 G) 24 (leB 4 b) ∧ la5 G = splice (la4 G) 28 (leB 4 l) ∧ la6 G = splice (la5 G) 32 (leB 8 t) ∧ la7 G = splice (la6 G) 40 (leB 4 a) ∧ la8 G = splice (la7 G) 44 (leB 4 r) ∧ la9 G = splice (la8 G) 48 (leB 8 c) ∧ la10 G = splice (la9 G) 56 (leB 8 v) ∧ la11 G = splice (la10 G) 504 (leB 8 g)) := Lib.hid (by rw [hG]; exact ⟨rfl, rfl, rfl, rfl, rfl, rfl, rfl, rfl, rfl, rfl, rfl⟩)
  have GA : Hid (G.arr = #[.int .i64 (g : Int), .int .i64 (e : Int), .int .i64 (b : Int), .int .i64 (l : Int), .int .i64 (t : Int), .int .i64 (a : Int), .int .i64 (r : Int), .int .i64 (c : Int), .int .i64 (v : Int)]) := Lib.hid (by rw [hG]; rfl)
  rw [GA.out]
  have wg : IntKind.u64.wrap (g : Int) = (g : Int) := by rw [IntKind.wrap_u64]; omega
  have we : IntKind.u64.wrap (e : Int) = (e : Int) := by rw [IntKind.wrap_u64]; omega
  have wb : IntKind.u64.wrap (b : Int) = (b : Int) := by rw [IntKind.wrap_u64]; omega
  have wl : IntKind.u64.wrap (l : Int) = (l : Int) := by rw [IntKind.wrap_u64]; omega
  have wt : IntKind.u64.wrap (t : Int) = (t : Int) := by rw [IntKind.wrap_u64]; omega
  have wa : IntKind.u64.wrap (a : Int) = (a : Int) := by rw [IntKind.wrap_u64]; omega
  have wr : IntKind.u64.wrap (r : Int) = (r : Int) := by rw [IntKind.wrap_u64]; omega
  have wc : IntKind.u64.wrap (c : Int) = (c : Int) := by rw [IntKind.wrap_u64]; omega
  have wv : IntKind.u64.wrap (v : Int) = (v : Int) := by rw [IntKind.wrap_u64]; omega
  obtain ⟨R, hR⟩ : ∃ R : List UInt8, R = List.replicate 512 0 := ⟨_, rfl⟩
  have RL : R.length = 512 := by rw [hR, List.length_replicate]
  have LA0 : la0 = splice R 0 [66, 83, 65, 82] := by rw [hR]; rfl
  obtain ⟨gx, hgx⟩ : ∃ gx, gx = w.heap.size := ⟨_, rfl⟩
  obtain ⟨gb, hgb⟩ : ∃ gb, gb = w.heap.size + 1 := ⟨_, rfl⟩
  obtain ⟨X0, hX0⟩ : ∃ X0, X0 = w.alloc (.cells #[.int .i64 (g : Int), .int .i64 (e : Int), .int .i64 (b : Int), .int .i64 (l : Int), .int .i64 (t : Int), .int .i64 (a : Int), .int .i64 (r : Int), .int .i64 (c : Int), .int .i64 (v : Int)] 34) := ⟨_, rfl⟩
  have sX : X0.heap.size = gb := by rw [hX0, hgb]; simp
  obtain ⟨Y, hY⟩ : ∃ Y, Y = X0.alloc (.cells (madeCells #[.int .u8 0] 512) 5) := ⟨_, rfl⟩
  have hm : (Instr.makeSlice 35 (.int .i64 512) (.int .i64 512)).run Try.prog X0 = .ok (.slice (some ⟨gb, 0, none⟩) 512 512) Y := by rw [hY, ← sX]; exact make_bytes X0 512 512 rfl rfl (Nat.le_refl _) (by decide)
  have Yb : Y.heap[gb]? = some (.cells (cells8 R).toArray 5 (0, 0)) := by rw [hY, ← sX, heap_alloc_new, made_zeros, hR]
  have Yx : Y.heap[gx]? = some (.cells G.arr 34 (0, 0)) := by
    rw [hY, Below.heap_alloc _ _ _ (by rw [sX]; omega), hX0, hgx, GA.out]
    exact heap_alloc_new _ _
  have YY : Hid (Ly w Y gx gb G R) := Lib.hid ⟨by omega, by omega, Yx, Yb, by
    rw [hY, hX0]
    exact ((Below.refl _ _).alloc (Nat.le_refl _) _).alloc (by simp) _⟩
  have FIT : Hid (0 + 4 ≤ R.length) := Lib.hid (by rw [RL]; decide)
  have A0 := Lib.hid LA0
  have hX0' := hX0.symm
  have KS : Hid (∀ {W : World} {L : List UInt8}, Ly w W gx gb G L → W.cell? ⟨gx, 0, none⟩ = some (.int .i64 (g : Int)) ∧ W.cell? ⟨gx, 1, none⟩ = some (.int .i64 (e : Int)) ∧ W.cell? ⟨gx, 2, none⟩ = some (.int .i64 (b : Int)) ∧ W.cell? ⟨gx, 3, none⟩ = some (.int .i64 (l : Int)) ∧ W.cell? ⟨gx, 4, none⟩ = some (.int .i64 (t : Int)) ∧ W.cell? ⟨gx, 5, none⟩ = some (.int .i64 (a : Int)) ∧ W.cell? ⟨gx, 6, none⟩ = some (.int .i64 (r : Int)) ∧ W.cell? ⟨gx, 7, none⟩ = some (.int .i64 (c : Int)) ∧ W.cell? ⟨gx, 8, none⟩ = some (.int .i64 (v : Int))) := Lib.hid (fun h => ⟨by rw [h.fld 0, GA.out]; rfl, by rw [h.fld 1, GA.out]; rfl, by rw [h.fld 2, GA.out]; rfl, by rw [h.fld 3, GA.out]; rfl, by rw [h.fld 4, GA.out]; rfl, by rw [h.fld 5, GA.out]; rfl, by rw [h.fld 6, GA.out]; rfl, by rw [h.fld 7, GA.out]; rfl, by rw [h.fld 8, GA.out]; rfl⟩)
  have GX := Lib.hid (And.intro hgx hgb)
  have hgx' := hgx.symm
  clear hR RL LA0 hG hX0 hY Yb Yx hgb sX hgx
  go_enter Try.func30, Try.ntmps30
  go_wp2_with (refine copy_str rfl (.tmp 5) ⟨#[66, 83, 65, 82]⟩ rfl gb 0 512 512 rfl R YY.out.bb (by decide) FIT.out ?_)
  intro w0 K0
  have H0 : Hid (Ly w w0 gx gb G la0) := Lib.hid (YY.out.upd K0.out.2 (by rw [K0.out.1, A0.out]))
  clear K0 YY FIT A0 hX0'
  have PU : Hid (Calls Try.prog 50 #[.slice (some ⟨gb, 4, none⟩) 4 508, .int .u64 ((1 : Nat) : Int)] w0 fun r w' => r = .returned (.tuple #[]) ∧ Ly w w' gx gb G (la1 G)) := Lib.hid (by rw [L0.out.1]; exact ly_put' H0.out 4 4 508 1 (by decide) (by decide) (by decide) (by rw [LN.out.1]; decide) (by omega))
  go_wp2_with fail
  refine PU.out.mono ?_
  rintro r1 w1 ⟨rfl, h1⟩
  have H1 := Lib.hid h1
  clear h1 PU H0
  have PU : Hid (Calls Try.prog 50 #[.slice (some ⟨gb, 8, none⟩) 8 504, .int .u64 (g : Int)] w1.drew fun r w' => r = .returned (.tuple #[]) ∧ Ly w w' gx gb G (la2 G)) := Lib.hid (by rw [L0.out.2.1]; exact ly_put H1.out 8 8 504 g (by decide) (by decide) (by decide) (by rw [LN.out.2.1]; decide) (by omega))
  go_wp2_with fail
  go_region_held (fun W : World => W.cell? ⟨gx, 0, none⟩ = some (.int .i64 (g : Int))) (first | exact (KS.out h2).1 | exact (KS.out H1.out.drew).1) (first | (go_at_call 50; refine PU.out.mono ?_; rintro r w2 ⟨rfl, h2⟩))
  have H2 := Lib.hid h2
  clear h2 PU H1
  have PU : Hid (Calls Try.prog 50 #[.slice (some ⟨gb, 16, none⟩) 8 496, .int .u64 (e : Int)] w2.drew fun r w' => r = .returned (.tuple #[]) ∧ Ly w w' gx gb G (la3 G)) := Lib.hid (by rw [L0.out.2.2.1]; exact ly_put H2.out 16 8 496 e (by decide) (by decide) (by decide) (by rw [LN.out.2.2.1]; decide) (by omega))
  go_wp2_with fail
  go_region_held (fun W : World => W.cell? ⟨gx, 1, none⟩ = some (.int .i64 (e : Int))) (first | exact (KS.out h3).2.1 | exact (KS.out H2.out.drew).2.1) (first | (go_at_call 50; refine PU.out.mono ?_; rintro r w3 ⟨rfl, h3⟩))
  have H3 := Lib.hid h3
  clear h3 PU H2
  have PU : Hid (Calls Try.prog 50 #[.slice (some ⟨gb, 24, none⟩) 4 488, .int .u64 (b : Int)] w3.drew fun r w' => r = .returned (.tuple #[]) ∧ Ly w w' gx gb G (la4 G)) := Lib.hid (by rw [L0.out.2.2.2.1]; exact ly_put H3.out 24 4 488 b (by decide) (by decide) (by decide) (by rw [LN.out.2.2.2.1]; decide) (by omega))
  go_wp2_with fail
  go_region_held (fun W : World => W.cell? ⟨gx, 2, none⟩ = some (.int .i64 (b : Int))) (first | exact (KS.out h4).2.2.1 | exact (KS.out H3.out.drew).2.2.1) (first | (go_at_call 50; refine PU.out.mono ?_; rintro r w4 ⟨rfl, h4⟩))
  have H4 := Lib.hid h4
  clear h4 PU H3
  have PU : Hid (Calls Try.prog 50 #[.slice (some ⟨gb, 28, none⟩) 4 484, .int .u64 (l : Int)] w4.drew fun r w' => r = .returned (.tuple #[]) ∧ Ly w w' gx gb G (la5 G)) := Lib.hid (by rw [L0.out.2.2.2.2.1]; exact ly_put H4.out 28 4 484 l (by decide) (by decide) (by decide) (by rw [LN.out.2.2.2.2.1]; decide) (by omega))
  go_wp2_with fail
  go_region_held (fun W : World => W.cell? ⟨gx, 3, none⟩ = some (.int .i64 (l : Int))) (first | exact (KS.out h5).2.2.2.1 | exact (KS.out H4.out.drew).2.2.2.1) (first | (go_at_call 50; refine PU.out.mono ?_; rintro r w5 ⟨rfl, h5⟩))
  have H5 := Lib.hid h5
  clear h5 PU H4
  have PU : Hid (Calls Try.prog 50 #[.slice (some ⟨gb, 32, none⟩) 8 480, .int .u64 (t : Int)] w5.drew fun r w' => r = .returned (.tuple #[]) ∧ Ly w w' gx gb G (la6 G)) := Lib.hid (by rw [L0.out.2.2.2.2.2.1]; exact ly_put H5.out 32 8 480 t (by decide) (by decide) (by decide) (by rw [LN.out.2.2.2.2.2.1]; decide) (by omega))
  go_wp2_with fail
  go_region_held (fun W : World => W.cell? ⟨gx, 4, none⟩ = some (.int .i64 (t : Int))) (first | exact (KS.out h6).2.2.2.2.1 | exact (KS.out H5.out.drew).2.2.2.2.1) (first | (go_at_call 50; refine PU.out.mono ?_; rintro r w6 ⟨rfl, h6⟩))
  have H6 := Lib.hid h6
  clear h6 PU H5
  have PU : Hid (Calls Try.prog 50 #[.slice (some ⟨gb, 40, none⟩) 4 472, .int .u64 (a : Int)] w6.drew fun r w' => r = .returned (.tuple #[]) ∧ Ly w w' gx gb G (la7 G)) := Lib.hid (by rw [L0.out.2.2.2.2.2.2.1]; exact ly_put H6.out 40 4 472 a (by decide) (by decide) (by decide) (by rw [LN.out.2.2.2.2.2.2.1]; decide) (by omega))
  go_wp2_with fail
  go_region_held (fun W : World => W.cell? ⟨gx, 5, none⟩ = some (.int .i64 (a : Int))) (first | exact (KS.out h7).2.2.2.2.2.1 | exact (KS.out H6.out.drew).2.2.2.2.2.1) (first | (go_at_call 50; refine PU.out.mono ?_; rintro r w7 ⟨rfl, h7⟩))
  have H7 := Lib.hid h7
  clear h7 PU H6
  have PU : Hid (Calls Try.prog 50 #[.slice (some ⟨gb, 44, none⟩) 4 468, .int .u64 (r : Int)] w7.drew fun r w' => r = .returned (.tuple #[]) ∧ Ly w w' gx gb G (la8 G)) := Lib.hid (by rw [L0.out.2.2.2.2.2.2.2.1]; exact ly_put H7.out 44 4 468 r (by decide) (by decide) (by decide) (by rw [LN.out.2.2.2.2.2.2.2.1]; decide) (by omega))
  go_wp2_with fail
  go_region_held (fun W : World => W.cell? ⟨gx, 6, none⟩ = some (.int .i64 (r : Int))) (first | exact (KS.out h8).2.2.2.2.2.2.1 | exact (KS.out H7.out.drew).2.2.2.2.2.2.1) (first | (go_at_call 50; refine PU.out.mono ?_; rintro r w8 ⟨rfl, h8⟩))
  have H8 := Lib.hid h8
  clear h8 PU H7
  have PU : Hid (Calls Try.prog 50 #[.slice (some ⟨gb, 48, none⟩) 8 464, .int .u64 (c : Int)] w8.drew fun r w' => r = .returned (.tuple #[]) ∧ Ly w w' gx gb G (la9 G)) := Lib.hid (by rw [L0.out.2.2.2.2.2.2.2.2.1]; exact ly_put H8.out 48 8 464 c (by decide) (by decide) (by decide) (by rw [LN.out.2.2.2.2.2.2.2.2.1]; decide) (by omega))
  go_wp2_with fail
  go_region_held (fun W : World => W.cell? ⟨gx, 7, none⟩ = some (.int .i64 (c : Int))) (first | exact (KS.out h9).2.2.2.2.2.2.2.1 | exact (KS.out H8.out.drew).2.2.2.2.2.2.2.1) (first | (go_at_call 50; refine PU.out.mono ?_; rintro r w9 ⟨rfl, h9⟩))
  have H9 := Lib.hid h9
  clear h9 PU H8
  have PU : Hid (Calls Try.prog 50 #[.slice (some ⟨gb, 56, none⟩) 8 456, .int .u64 (v : Int)] w9.drew fun r w' => r = .returned (.tuple #[]) ∧ Ly w w' gx gb G (la10 G)) := Lib.hid (by rw [L0.out.2.2.2.2.2.2.2.2.2.1]; exact ly_put H9.out 56 8 456 v (by decide) (by decide) (by decide) (by rw [LN.out.2.2.2.2.2.2.2.2.2.1]; decide) (by omega))
  go_wp2_with fail
  go_region_held (fun W : World => W.cell? ⟨gx, 8, none⟩ = some (.int .i64 (v : Int))) (first | exact (KS.out h10).2.2.2.2.2.2.2.2 | exact (KS.out H9.out.drew).2.2.2.2.2.2.2.2) (first | (go_at_call 50; refine PU.out.mono ?_; rintro r w10 ⟨rfl, h10⟩))
  have H10 := Lib.hid h10
  clear h10 PU H9
  have PU : Hid (Calls Try.prog 50 #[.slice (some ⟨gb, 504, none⟩) 8 8, .int .u64 (g : Int)] w10.drew fun r w' => r = .returned (.tuple #[]) ∧ Ly w w' gx gb G (la11 G)) := Lib.hid (by rw [L0.out.2.2.2.2.2.2.2.2.2.2]; exact ly_put H10.out 504 8 8 g (by decide) (by decide) (by decide) (by rw [LN.out.2.2.2.2.2.2.2.2.2.2.1]; decide) (by omega))
  go_wp2_with fail
  go_region_held (fun W : World => W.cell? ⟨gx, 0, none⟩ = some (.int .i64 (g : Int))) (first | exact (KS.out h11).1 | exact (KS.out H10.out.drew).1) (first | (go_at_call 50; refine PU.out.mono ?_; rintro r w11 ⟨rfl, h11⟩))
  have H11 := Lib.hid h11
  clear h11 PU H10
  obtain ⟨C, hC⟩ : ∃ C, C = crc ((la11 G).take 500 ++ (la11 G).drop 504) := ⟨_, rfl⟩
  have hC32 : C < 4294967296 := by rw [hC]; exact crc_lt _
  have CC := Lib.hid hC
  have wC : IntKind.u64.wrap (C : Int) = (C : Int) := by rw [IntKind.wrap_u64]; omega
  obtain ⟨X7, hX7⟩ : ∃ X7, X7 = w11.drew.alloc (.cells #[.slice (some ⟨gb, 0, none⟩) 500 512, .slice (some ⟨gb, 504, none⟩) 8 8] 35) := ⟨_, rfl⟩
  have HX : Hid (Ly w X7 gx gb G (la11 G)) := Lib.hid (by rw [hX7]; exact H11.out.drew.below ((Below.refl _ _).alloc (Nat.le_refl _) _))
  have cx : ∀ k, X7.cell? ⟨w11.heap.size, k, none⟩ = (#[.slice (some ⟨gb, 0, none⟩) 500 512, .slice (some ⟨gb, 504, none⟩) 8 8] : Array Value)[k]? := fun k => by rw [hX7]; exact World.cell?_alloc_new _ _ _ _
  have PA : Hid (Calls Try.prog 51 #[.slice (some ⟨w11.heap.size, 0, none⟩) 2 2] X7 fun r w' => r = .returned (.int .u32 (C : Int)) ∧ Ly w w' gx gb G (la11 G)) := Lib.hid (by
    have b1 := HX.out.bytes LN.out.2.2.2.2.2.2.2.2.2.2.2 0 500 (by omega)
    have b2 := HX.out.bytes LN.out.2.2.2.2.2.2.2.2.2.2.2 504 8 (by omega)
    rw [List.drop_zero] at b1
    have e2 : ((la11 G).drop 504).take 8 = (la11 G).drop 504 := List.take_of_length_le (by rw [List.length_drop, LN.out.2.2.2.2.2.2.2.2.2.2.2]; omega)
    rw [e2] at b2
    refine (parts2_any w11.heap.size _ _ _ _ X7 b1 b2 (cx 0) (cx 1)).mono ?_
    rintro r w' ⟨rfl, hb⟩
    exact ⟨by rw [← CC.out], HX.out.below hb⟩)
  have PU : Hid (∀ W, Ly w W gx gb G (la11 G) → Calls Try.prog 50 #[.slice (some ⟨gb, 500, none⟩) 4 12, .int .u64 (C : Int)] W fun r w' => r = .returned (.tuple #[]) ∧ Ly w w' gx gb G (la12 G)) := Lib.hid (fun W h => by
    have e : la12 G = splice (la11 G) 500 (leB 4 C) := by rw [CC.out]; rfl
    rw [e]
    exact ly_put' h 500 4 12 C (by decide) (by decide) (by decide) (by rw [LN.out.2.2.2.2.2.2.2.2.2.2.2]; decide) (by omega))
  have hX7' := hX7.symm
  clear hX7 hC cx
  go_wp2_with fail
  go_region_held (fun _ : World => True) (exact trivial) (first | (go_at_call 51; refine PA.out.mono ?_; rintro r w12 ⟨rfl, h12⟩) | (go_at_call 50; refine (PU.out _ h12).mono ?_; rintro r w13 ⟨rfl, h13⟩))
  have H13 := Lib.hid h13
  clear h13 h12 PA PU HX H11 hX7'
  go_wp2_with fail
  go_ret
  refine ⟨gb, rfl, ?_, H13.out.bl⟩
  rw [← EQ.out]
  exact own_of H13.out.bb H13.out.lo.2 (by rw [EQ.out]; exact layA_length G) (by decide)
set_option maxRecDepth 100000 in
theorem lay_any (s : Sup) (hs : Vd s) (w : World) :
    Calls Try.prog 30 #[.agg s.arr] w fun q w' => ∃ gb, q = .returned (.slice (some ⟨gb, 0, none⟩) 512 512) ∧ Own w.heap.size w' (.slice (some ⟨gb, 0, none⟩) 512 512) (layA s) ∧ Below w.heap.size w w' := by
  obtain ⟨g, e, b, l, t, a, r, c, v, rfl⟩ := hs.nat
  obtain ⟨b1, b2, l1, l2, lb, g1, g2, e1, e2, s1, s2, p1, v1, v2, r1⟩ := hs
  simp only at *
  have p2 : (a : Int) < (l : Int) := by rw [p1]; exact Int.emod_lt_of_pos _ (by omega)
  exact lay_nat g e b l t a r c v (by omega) (by omega) (by omega) (by omega) (by omega) (by omega) (by omega) (by omega) (by omega) w
end Go.Proofs.Ytbdlebengmbooaa
