/-
  AnchorBack: a superblock that is not valid.
-/
import Derived.Test.YthjekiddjldehaaAnF
import Derived.Test.YthjekiddjldehaaAuC
namespace Go.Proofs.Ythjekiddjldehaa
open Go.RowKit Go.Maps
set_option maxRecDepth 100000 in
set_option maxHeartbeats 8000000 in
theorem ab_NO (xgen xep xblk xlog xst xpl xrt xcnt xver : Int) (tgen tep tblk tlog tst tpl trt tcnt tver : Int) (at' : Int) (x : BitVec 32) (v3 : Value) (b : List UInt8) (w : World) (hb : Bytes w v3 b) (hbl : b.length ≤ 140737488351232)
     (hva : vaB (Sup.mk xgen xep xblk xlog xst xpl xrt xcnt xver) xblk = false) (hdec : decR b = ((Sup.mk tgen tep tblk tlog tst tpl trt tcnt tver), 0)) (hvt : vaB (Sup.mk tgen tep tblk tlog tst tpl trt tcnt tver) tblk = true) (hlt : layA (Sup.mk tgen tep tblk tlog tst tpl trt tcnt tver) = b) :
    Calls Try.prog 4 #[.agg #[.int .i64 xgen, .int .i64 xep, .int .i64 xblk, .int .i64 xlog, .int .i64 xst, .int .i64 xpl, .int .i64 xrt, .int .i64 xcnt, .int .i64 xver], .int .i64 at', .int .u32 (Sm.u x), v3] w fun e w' => e = .returned (.bool true) ∧ Below w.heap.size w w' := by
  have HB := Lib.hid hb
  have HBL := Lib.hid hbl
  obtain ⟨a3, n3, c3, e3, en3⟩ : ∃ a n c, v3 = .slice a n c ∧ n = b.length := by obtain ⟨a, c, e, _⟩ := hb.len; exact ⟨a, _, c, e, rfl⟩
  subst e3
  obtain ⟨X, hX⟩ : ∃ X, X = w.alloc (.cells #[.int .i64 xgen, .int .i64 xep, .int .i64 xblk, .int .i64 xlog, .int .i64 xst, .int .i64 xpl, .int .i64 xrt, .int .i64 xcnt, .int .i64 xver] 25) := ⟨_, rfl⟩
  obtain ⟨gx, hgx⟩ : ∃ g, g = w.heap.size := ⟨_, rfl⟩
  have BX : Hid (Below w.heap.size w X) := Lib.hid (by rw [hX]; exact (Below.refl _ _).alloc (Nat.le_refl _) _)
  have GX : Hid (X.heap[gx]? = some (.cells (Sup.mk xgen xep xblk xlog xst xpl xrt xcnt xver).arr 25 (0, 0))) := Lib.hid (by rw [hgx, hX]; exact heap_alloc_new _ _)
  have PW : Hid (∀ W : World, Below X.heap.size X W → Bytes W (.slice a3 n3 c3) b ∧ Below w.heap.size w W) := Lib.hid (fun W h => ⟨(HB.out.below BX.out).below h, BX.out.trans (h.mono BX.out.size)⟩)
  have KS : Hid (∀ W : World, Below X.heap.size X W → W.cell? ⟨gx, 0, none⟩ = some (.int .i64 xgen) ∧ W.cell? ⟨gx, 1, none⟩ = some (.int .i64 xep) ∧ W.cell? ⟨gx, 2, none⟩ = some (.int .i64 xblk) ∧ W.cell? ⟨gx, 3, none⟩ = some (.int .i64 xlog) ∧ W.cell? ⟨gx, 4, none⟩ = some (.int .i64 xst) ∧ W.cell? ⟨gx, 5, none⟩ = some (.int .i64 xpl) ∧ W.cell? ⟨gx, 6, none⟩ = some (.int .i64 xrt) ∧ W.cell? ⟨gx, 7, none⟩ = some (.int .i64 xcnt) ∧ W.cell? ⟨gx, 8, none⟩ = some (.int .i64 xver)) := Lib.hid (fun W h => sup_cells (s := (Sup.mk xgen xep xblk xlog xst xpl xrt xcnt xver)) ((h.block gx (lt_of_heap GX.out)).trans GX.out))
  have VA : Hid (∀ W : World, Below X.heap.size X W → Calls Try.prog 14 #[.agg #[.int .i64 xgen, .int .i64 xep, .int .i64 xblk, .int .i64 xlog, .int .i64 xst, .int .i64 xpl, .int .i64 xrt, .int .i64 xcnt, .int .i64 xver], .int .i64 xblk] W fun e w' => e = .returned (.bool false) ∧ Below W.heap.size W w') := Lib.hid (fun W _ => by have := valid_any (Sup.mk xgen xep xblk xlog xst xpl xrt xcnt xver) xblk W; rw [hva] at this; exact this)
  have DEC : Hid (∀ W v, Bytes W v b → Calls Try.prog 15 #[v] W fun e w' => e = .returned (.tuple #[.agg #[.int .i64 tgen, .int .i64 tep, .int .i64 tblk, .int .i64 tlog, .int .i64 tst, .int .i64 tpl, .int .i64 trt, .int .i64 tcnt, .int .i64 tver], .int .i64 0]) ∧ Below W.heap.size W w') := Lib.hid (fun W v hv => by have := dec_any v b W hv; rw [hdec] at this; exact this)
  have VDT : Vd (Sup.mk tgen tep tblk tlog tst tpl trt tcnt tver) := (vd_iff (Sup.mk tgen tep tblk tlog tst tpl trt tcnt tver)).1 hvt
  have tb1 : 64 ≤ tblk := VDT.b1
  have tb2 : tblk ≤ 4096 := VDT.b2
  have ENT : Hid (∀ W, Calls Try.prog 11 #[.agg #[.int .i64 tgen, .int .i64 tep, .int .i64 tblk, .int .i64 tlog, .int .i64 tst, .int .i64 tpl, .int .i64 trt, .int .i64 tcnt, .int .i64 tver]] W fun e w' => ∃ gb, e = .returned (.tuple #[.slice (some ⟨gb, 0, none⟩) 512 512, .int .i64 0]) ∧ Own W.heap.size w' (.slice (some ⟨gb, 0, none⟩) 512 512) b ∧ Below W.heap.size W w') := Lib.hid (fun W => by have := enc_yes (Sup.mk tgen tep tblk tlog tst tpl trt tcnt tver) W hvt; rw [hlt] at this; exact this)
  have VT1 : Hid (∀ W, Calls Try.prog 14 #[.agg #[.int .i64 tgen, .int .i64 tep, .int .i64 tblk, .int .i64 tlog, .int .i64 tst, .int .i64 tpl, .int .i64 trt, .int .i64 tcnt, .int .i64 tver], .int .i64 tblk] W fun e w' => e = .returned (.bool true) ∧ Below W.heap.size W w') := Lib.hid (fun W => by have := valid_any (Sup.mk tgen tep tblk tlog tst tpl trt tcnt tver) tblk W; rw [hvt] at this; exact this)
  have VT2 : Hid (∀ W, Calls Try.prog 14 #[.agg #[.int .i64 tgen, .int .i64 tep, .int .i64 tblk, .int .i64 tlog, .int .i64 tst, .int .i64 tpl, .int .i64 trt, .int .i64 tcnt, .int .i64 tver], .int .i64 (tblk + 1)] W fun e w' => e = .returned (.bool false) ∧ Below W.heap.size W w') := Lib.hid (fun W => by
    have := valid_any (Sup.mk tgen tep tblk tlog tst tpl trt tcnt tver) (tblk + 1) W
    rw [show vaB (Sup.mk tgen tep tblk tlog tst tpl trt tcnt tver) (tblk + 1) = false by
      unfold vaB
      rw [decide_eq_false (by show ¬ tblk = tblk + 1; omega), Bool.false_and]] at this
    exact this)
  clear hdec hvt hlt VDT
  have EN : Hid (∀ W, Calls Try.prog 11 #[.agg #[.int .i64 xgen, .int .i64 xep, .int .i64 xblk, .int .i64 xlog, .int .i64 xst, .int .i64 xpl, .int .i64 xrt, .int .i64 xcnt, .int .i64 xver]] W fun e w' => e = .returned (.tuple #[.slice none 0 0, .int .i64 1]) ∧ Below W.heap.size W w') := Lib.hid (fun W => enc_no (Sup.mk xgen xep xblk xlog xst xpl xrt xcnt xver) W hva)
  have hX' := hX.symm
  have hgx' := hgx.symm
  clear hX hgx GX hb hbl hva en3
  go_enter Try.func4, Try.ntmps4
  go_wp2_with fail
  refine (fixed_any X).mono ?_
  rintro _ w1 ⟨rfl, b1⟩
  have B1 := Lib.hid b1
  clear b1 hX' hgx'
  obtain ⟨y0, y1, y2, y3, y4, y5, y6, y7, y8⟩ := KS.out w1 B1.out
  go_wp2_with fail
  refine (EN.out _).mono ?_
  rintro _ w2 ⟨rfl, b2⟩
  have B2 := Lib.hid (B1.out.trans (b2.mono B1.out.size))
  clear b2 y0 y1 y2 y3 y4 y5 y6 y7 y8
  obtain ⟨z0, z1, z2, z3, z4, z5, z6, z7, z8⟩ := KS.out w2 B2.out
  go_wp2_with fail
  refine (VA.out w2 B2.out).mono ?_
  rintro _ w3 ⟨rfl, b3⟩
  have B3 := Lib.hid (B2.out.trans (b3.mono B2.out.size))
  clear b3 z0 z1 z2 z3 z4 z5 z6 z7 z8 VA EN KS
  go_wp2_with fail
  refine (ownW_any _ b w3 (PW.out w3 B3.out).1 (by have := HBL.out; omega)).mono ?_
  rintro _ w21 ⟨v21, rfl, o21, b21⟩
  have B21 := Lib.hid ((B3.out).trans (b21.mono (B3.out).size))
  have DB := Lib.hid (DEC.out w21 v21 o21.bytes)
  obtain ⟨a21, n21, c21, e21⟩ : ∃ a n c, v21 = .slice a n c := by obtain ⟨a, c, e, _⟩ := o21.bytes.len; exact ⟨a, _, c, e⟩
  subst e21
  clear o21 b21
  go_wp2_with fail
  refine DB.out.mono ?_
  rintro _ w22 ⟨rfl, b22⟩
  have B22 := Lib.hid (B21.out.trans (b22.mono B21.out.size))
  clear b22 DB B21
  have KT : Hid (∀ W : World, Below (w22.alloc (.cells #[.int .i64 tgen, .int .i64 tep, .int .i64 tblk, .int .i64 tlog, .int .i64 tst, .int .i64 tpl, .int .i64 trt, .int .i64 tcnt, .int .i64 tver] 25)).heap.size (w22.alloc (.cells #[.int .i64 tgen, .int .i64 tep, .int .i64 tblk, .int .i64 tlog, .int .i64 tst, .int .i64 tpl, .int .i64 trt, .int .i64 tcnt, .int .i64 tver] 25)) W → (W.cell? ⟨w22.heap.size, 0, none⟩ = some (.int .i64 tgen) ∧ W.cell? ⟨w22.heap.size, 1, none⟩ = some (.int .i64 tep) ∧ W.cell? ⟨w22.heap.size, 2, none⟩ = some (.int .i64 tblk) ∧ W.cell? ⟨w22.heap.size, 3, none⟩ = some (.int .i64 tlog) ∧ W.cell? ⟨w22.heap.size, 4, none⟩ = some (.int .i64 tst) ∧ W.cell? ⟨w22.heap.size, 5, none⟩ = some (.int .i64 tpl) ∧ W.cell? ⟨w22.heap.size, 6, none⟩ = some (.int .i64 trt) ∧ W.cell? ⟨w22.heap.size, 7, none⟩ = some (.int .i64 tcnt) ∧ W.cell? ⟨w22.heap.size, 8, none⟩ = some (.int .i64 tver)) ∧ Below X.heap.size X W) := Lib.hid (fun W h => ⟨sup_cells (s := (Sup.mk tgen tep tblk tlog tst tpl trt tcnt tver)) ((h.block _ (by simp)).trans (heap_alloc_new _ _)), (B22.out.alloc B22.out.size _).trans (h.mono (B22.out.alloc B22.out.size _).size)⟩)
  obtain ⟨p0, p1, p2, p3, p4, p5, p6, p7, p8⟩ := (KT.out _ (Below.refl _ _)).1
  go_wp2_with fail
  refine (ENT.out _).mono ?_
  rintro _ w23 ⟨gz, rfl, o23, b23⟩
  obtain ⟨⟨q0, q1, q2, q3, q4, q5, q6, q7, q8⟩, b23'⟩ := KT.out w23 b23
  have B23 := Lib.hid (And.intro b23 b23')
  have SM := Lib.hid (sameW_any _ _ b b w23 o23.bytes (PW.out w23 b23').1)
  rw [decide_eq_true rfl] at SM
  clear o23 b23 b23' p0 p1 p2 p3 p4 p5 p6 p7 p8
  have M1 : True := trivial
  have M2 : True := trivial
  go_wp2_with (first | (go_at_call 18; refine SM.out.mono ?_; rintro _ w24 ⟨rfl, rfl⟩) | (go_at_call 14; clear M1; refine (VT1.out _).mono ?_; rintro _ w25 ⟨rfl, b25⟩; have B25 := Lib.hid (B23.out.1.trans (b25.mono B23.out.1.size)); clear b25; obtain ⟨⟨r0, r1, r2, r3, r4, r5, r6, r7, r8⟩, -⟩ := KT.out w25 B25.out) | (go_at_call 14; clear M2; refine (VT2.out _).mono ?_; rintro _ w26 ⟨rfl, b26⟩; have B26 := Lib.hid (B25.out.trans (b26.mono B25.out.size)); clear b26))
  go_ret
  exact ⟨rfl, (PW.out w26 (KT.out w26 B26.out).2).2⟩
set_option maxRecDepth 100000 in
set_option maxHeartbeats 8000000 in
theorem ab_NB (xgen xep xblk xlog xst xpl xrt xcnt xver : Int) (at' : Int) (x : BitVec 32) (v3 : Value) (b : List UInt8) (w : World) (hb : Bytes w v3 b) (hbl : b.length ≤ 140737488351232)
     (hva : vaB (Sup.mk xgen xep xblk xlog xst xpl xrt xcnt xver) xblk = false) (hdec : decR b = (zeroS, 2)) (hb5 : b.length = 512) :
    Calls Try.prog 4 #[.agg #[.int .i64 xgen, .int .i64 xep, .int .i64 xblk, .int .i64 xlog, .int .i64 xst, .int .i64 xpl, .int .i64 xrt, .int .i64 xcnt, .int .i64 xver], .int .i64 at', .int .u32 (Sm.u x), v3] w fun e w' => e = .returned (.bool true) ∧ Below w.heap.size w w' := by
  have HB := Lib.hid hb
  have HBL := Lib.hid hbl
  obtain ⟨a3, n3, c3, e3, en3⟩ : ∃ a n c, v3 = .slice a n c ∧ n = b.length := by obtain ⟨a, c, e, _⟩ := hb.len; exact ⟨a, _, c, e, rfl⟩
  subst e3
  obtain ⟨X, hX⟩ : ∃ X, X = w.alloc (.cells #[.int .i64 xgen, .int .i64 xep, .int .i64 xblk, .int .i64 xlog, .int .i64 xst, .int .i64 xpl, .int .i64 xrt, .int .i64 xcnt, .int .i64 xver] 25) := ⟨_, rfl⟩
  obtain ⟨gx, hgx⟩ : ∃ g, g = w.heap.size := ⟨_, rfl⟩
  have BX : Hid (Below w.heap.size w X) := Lib.hid (by rw [hX]; exact (Below.refl _ _).alloc (Nat.le_refl _) _)
  have GX : Hid (X.heap[gx]? = some (.cells (Sup.mk xgen xep xblk xlog xst xpl xrt xcnt xver).arr 25 (0, 0))) := Lib.hid (by rw [hgx, hX]; exact heap_alloc_new _ _)
  have PW : Hid (∀ W : World, Below X.heap.size X W → Bytes W (.slice a3 n3 c3) b ∧ Below w.heap.size w W) := Lib.hid (fun W h => ⟨(HB.out.below BX.out).below h, BX.out.trans (h.mono BX.out.size)⟩)
  have KS : Hid (∀ W : World, Below X.heap.size X W → W.cell? ⟨gx, 0, none⟩ = some (.int .i64 xgen) ∧ W.cell? ⟨gx, 1, none⟩ = some (.int .i64 xep) ∧ W.cell? ⟨gx, 2, none⟩ = some (.int .i64 xblk) ∧ W.cell? ⟨gx, 3, none⟩ = some (.int .i64 xlog) ∧ W.cell? ⟨gx, 4, none⟩ = some (.int .i64 xst) ∧ W.cell? ⟨gx, 5, none⟩ = some (.int .i64 xpl) ∧ W.cell? ⟨gx, 6, none⟩ = some (.int .i64 xrt) ∧ W.cell? ⟨gx, 7, none⟩ = some (.int .i64 xcnt) ∧ W.cell? ⟨gx, 8, none⟩ = some (.int .i64 xver)) := Lib.hid (fun W h => sup_cells (s := (Sup.mk xgen xep xblk xlog xst xpl xrt xcnt xver)) ((h.block gx (lt_of_heap GX.out)).trans GX.out))
  have VA : Hid (∀ W : World, Below X.heap.size X W → Calls Try.prog 14 #[.agg #[.int .i64 xgen, .int .i64 xep, .int .i64 xblk, .int .i64 xlog, .int .i64 xst, .int .i64 xpl, .int .i64 xrt, .int .i64 xcnt, .int .i64 xver], .int .i64 xblk] W fun e w' => e = .returned (.bool false) ∧ Below W.heap.size W w') := Lib.hid (fun W _ => by have := valid_any (Sup.mk xgen xep xblk xlog xst xpl xrt xcnt xver) xblk W; rw [hva] at this; exact this)
  have DEC : Hid (∀ W v, Bytes W v b → Calls Try.prog 15 #[v] W fun e w' => e = .returned (.tuple #[.agg #[.int .i64 0, .int .i64 0, .int .i64 0, .int .i64 0, .int .i64 0, .int .i64 0, .int .i64 0, .int .i64 0, .int .i64 0], .int .i64 2]) ∧ Below W.heap.size W w') := Lib.hid (fun W v hv => by have := dec_any v b W hv; rw [hdec] at this; exact this)
  have hn5 : n3 = 512 := by rw [en3]; exact hb5
  subst hn5
  clear hdec hb5
  have EN : Hid (∀ W, Calls Try.prog 11 #[.agg #[.int .i64 xgen, .int .i64 xep, .int .i64 xblk, .int .i64 xlog, .int .i64 xst, .int .i64 xpl, .int .i64 xrt, .int .i64 xcnt, .int .i64 xver]] W fun e w' => e = .returned (.tuple #[.slice none 0 0, .int .i64 1]) ∧ Below W.heap.size W w') := Lib.hid (fun W => enc_no (Sup.mk xgen xep xblk xlog xst xpl xrt xcnt xver) W hva)
  have hX' := hX.symm
  have hgx' := hgx.symm
  clear hX hgx GX hb hbl hva en3
  go_enter Try.func4, Try.ntmps4
  go_wp2_with fail
  refine (fixed_any X).mono ?_
  rintro _ w1 ⟨rfl, b1⟩
  have B1 := Lib.hid b1
  clear b1 hX' hgx'
  obtain ⟨y0, y1, y2, y3, y4, y5, y6, y7, y8⟩ := KS.out w1 B1.out
  go_wp2_with fail
  refine (EN.out _).mono ?_
  rintro _ w2 ⟨rfl, b2⟩
  have B2 := Lib.hid (B1.out.trans (b2.mono B1.out.size))
  clear b2 y0 y1 y2 y3 y4 y5 y6 y7 y8
  obtain ⟨z0, z1, z2, z3, z4, z5, z6, z7, z8⟩ := KS.out w2 B2.out
  go_wp2_with fail
  refine (VA.out w2 B2.out).mono ?_
  rintro _ w3 ⟨rfl, b3⟩
  have B3 := Lib.hid (B2.out.trans (b3.mono B2.out.size))
  clear b3 z0 z1 z2 z3 z4 z5 z6 z7 z8 VA EN KS
  go_wp2_with fail
  refine (ownW_any _ b w3 (PW.out w3 B3.out).1 (by have := HBL.out; omega)).mono ?_
  rintro _ w21 ⟨v21, rfl, o21, b21⟩
  have B21 := Lib.hid ((B3.out).trans (b21.mono (B3.out).size))
  have DB := Lib.hid (DEC.out w21 v21 o21.bytes)
  obtain ⟨a21, n21, c21, e21⟩ : ∃ a n c, v21 = .slice a n c := by obtain ⟨a, c, e, _⟩ := o21.bytes.len; exact ⟨a, _, c, e⟩
  subst e21
  clear o21 b21
  go_wp2_with fail
  refine DB.out.mono ?_
  rintro _ w22 ⟨rfl, b22⟩
  have B22 := Lib.hid (B21.out.trans (b22.mono B21.out.size))
  clear b22 DB B21
  go_wp2_with fail
  go_ret
  exact ⟨rfl, (PW.out _ (B22.out.alloc B22.out.size _)).2⟩
set_option maxRecDepth 100000 in
set_option maxHeartbeats 8000000 in
theorem ab_NS (xgen xep xblk xlog xst xpl xrt xcnt xver : Int) (at' : Int) (x : BitVec 32) (v3 : Value) (b : List UInt8) (w : World) (hb : Bytes w v3 b) (hbl : b.length ≤ 140737488351232)
     (hva : vaB (Sup.mk xgen xep xblk xlog xst xpl xrt xcnt xver) xblk = false) (hdec : decR b = (zeroS, 61)) (hb5 : b.length ≠ 512) :
    Calls Try.prog 4 #[.agg #[.int .i64 xgen, .int .i64 xep, .int .i64 xblk, .int .i64 xlog, .int .i64 xst, .int .i64 xpl, .int .i64 xrt, .int .i64 xcnt, .int .i64 xver], .int .i64 at', .int .u32 (Sm.u x), v3] w fun e w' => e = .returned (.bool true) ∧ Below w.heap.size w w' := by
  have HB := Lib.hid hb
  have HBL := Lib.hid hbl
  obtain ⟨a3, n3, c3, e3, en3⟩ : ∃ a n c, v3 = .slice a n c ∧ n = b.length := by obtain ⟨a, c, e, _⟩ := hb.len; exact ⟨a, _, c, e, rfl⟩
  subst e3
  obtain ⟨X, hX⟩ : ∃ X, X = w.alloc (.cells #[.int .i64 xgen, .int .i64 xep, .int .i64 xblk, .int .i64 xlog, .int .i64 xst, .int .i64 xpl, .int .i64 xrt, .int .i64 xcnt, .int .i64 xver] 25) := ⟨_, rfl⟩
  obtain ⟨gx, hgx⟩ : ∃ g, g = w.heap.size := ⟨_, rfl⟩
  have BX : Hid (Below w.heap.size w X) := Lib.hid (by rw [hX]; exact (Below.refl _ _).alloc (Nat.le_refl _) _)
  have GX : Hid (X.heap[gx]? = some (.cells (Sup.mk xgen xep xblk xlog xst xpl xrt xcnt xver).arr 25 (0, 0))) := Lib.hid (by rw [hgx, hX]; exact heap_alloc_new _ _)
  have PW : Hid (∀ W : World, Below X.heap.size X W → Bytes W (.slice a3 n3 c3) b ∧ Below w.heap.size w W) := Lib.hid (fun W h => ⟨(HB.out.below BX.out).below h, BX.out.trans (h.mono BX.out.size)⟩)
  have KS : Hid (∀ W : World, Below X.heap.size X W → W.cell? ⟨gx, 0, none⟩ = some (.int .i64 xgen) ∧ W.cell? ⟨gx, 1, none⟩ = some (.int .i64 xep) ∧ W.cell? ⟨gx, 2, none⟩ = some (.int .i64 xblk) ∧ W.cell? ⟨gx, 3, none⟩ = some (.int .i64 xlog) ∧ W.cell? ⟨gx, 4, none⟩ = some (.int .i64 xst) ∧ W.cell? ⟨gx, 5, none⟩ = some (.int .i64 xpl) ∧ W.cell? ⟨gx, 6, none⟩ = some (.int .i64 xrt) ∧ W.cell? ⟨gx, 7, none⟩ = some (.int .i64 xcnt) ∧ W.cell? ⟨gx, 8, none⟩ = some (.int .i64 xver)) := Lib.hid (fun W h => sup_cells (s := (Sup.mk xgen xep xblk xlog xst xpl xrt xcnt xver)) ((h.block gx (lt_of_heap GX.out)).trans GX.out))
  have VA : Hid (∀ W : World, Below X.heap.size X W → Calls Try.prog 14 #[.agg #[.int .i64 xgen, .int .i64 xep, .int .i64 xblk, .int .i64 xlog, .int .i64 xst, .int .i64 xpl, .int .i64 xrt, .int .i64 xcnt, .int .i64 xver], .int .i64 xblk] W fun e w' => e = .returned (.bool false) ∧ Below W.heap.size W w') := Lib.hid (fun W _ => by have := valid_any (Sup.mk xgen xep xblk xlog xst xpl xrt xcnt xver) xblk W; rw [hva] at this; exact this)
  have DEC : Hid (∀ W v, Bytes W v b → Calls Try.prog 15 #[v] W fun e w' => e = .returned (.tuple #[.agg #[.int .i64 0, .int .i64 0, .int .i64 0, .int .i64 0, .int .i64 0, .int .i64 0, .int .i64 0, .int .i64 0, .int .i64 0], .int .i64 61]) ∧ Below W.heap.size W w') := Lib.hid (fun W v hv => by have := dec_any v b W hv; rw [hdec] at this; exact this)
  have hn5 : ((n3 : Int) == 512) = false := by rw [beq_eq_false_iff_ne, en3]; omega
  have hn6 : (n3 == 512) = false := by rw [beq_eq_false_iff_ne, en3]; exact hb5
  clear hdec hb5
  have EN : Hid (∀ W, Calls Try.prog 11 #[.agg #[.int .i64 xgen, .int .i64 xep, .int .i64 xblk, .int .i64 xlog, .int .i64 xst, .int .i64 xpl, .int .i64 xrt, .int .i64 xcnt, .int .i64 xver]] W fun e w' => e = .returned (.tuple #[.slice none 0 0, .int .i64 1]) ∧ Below W.heap.size W w') := Lib.hid (fun W => enc_no (Sup.mk xgen xep xblk xlog xst xpl xrt xcnt xver) W hva)
  have hX' := hX.symm
  have hgx' := hgx.symm
  clear hX hgx GX hb hbl hva en3
  go_enter Try.func4, Try.ntmps4
  go_wp2_with fail
  refine (fixed_any X).mono ?_
  rintro _ w1 ⟨rfl, b1⟩
  have B1 := Lib.hid b1
  clear b1 hX' hgx'
  obtain ⟨y0, y1, y2, y3, y4, y5, y6, y7, y8⟩ := KS.out w1 B1.out
  go_wp2_with fail
  refine (EN.out _).mono ?_
  rintro _ w2 ⟨rfl, b2⟩
  have B2 := Lib.hid (B1.out.trans (b2.mono B1.out.size))
  clear b2 y0 y1 y2 y3 y4 y5 y6 y7 y8
  obtain ⟨z0, z1, z2, z3, z4, z5, z6, z7, z8⟩ := KS.out w2 B2.out
  go_wp2_with fail
  refine (VA.out w2 B2.out).mono ?_
  rintro _ w3 ⟨rfl, b3⟩
  have B3 := Lib.hid (B2.out.trans (b3.mono B2.out.size))
  clear b3 z0 z1 z2 z3 z4 z5 z6 z7 z8 VA EN KS
  go_wp2_with fail
  refine (ownW_any _ b w3 (PW.out w3 B3.out).1 (by have := HBL.out; omega)).mono ?_
  rintro _ w21 ⟨v21, rfl, o21, b21⟩
  have B21 := Lib.hid ((B3.out).trans (b21.mono (B3.out).size))
  have DB := Lib.hid (DEC.out w21 v21 o21.bytes)
  obtain ⟨a21, n21, c21, e21⟩ : ∃ a n c, v21 = .slice a n c := by obtain ⟨a, c, e, _⟩ := o21.bytes.len; exact ⟨a, _, c, e⟩
  subst e21
  clear o21 b21
  go_wp2_with fail
  refine DB.out.mono ?_
  rintro _ w22 ⟨rfl, b22⟩
  have B22 := Lib.hid (B21.out.trans (b22.mono B21.out.size))
  clear b22 DB B21
  go_wp2_with fail
  go_ret
  exact ⟨rfl, (PW.out _ (B22.out.alloc B22.out.size _)).2⟩
end Go.Proofs.Ythjekiddjldehaa
