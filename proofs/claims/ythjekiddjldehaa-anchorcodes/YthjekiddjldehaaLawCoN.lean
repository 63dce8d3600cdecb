/-
  AnchorCodes: a superblock that is not valid.
-/
import Derived.Test.YthjekiddjldehaaLawCo0
import Derived.BigQuiet
import Derived.Lib.QuietBelow
namespace Go.Proofs.Ythjekiddjldehaa
open Go.RowKit Go.Maps Go.Sort
set_option maxRecDepth 100000 in
set_option maxHeartbeats 16000000 in
theorem ac_N (xgen  xep  xblk  xlog  xst  xpl  xrt  xcnt  xver blocks : Int) (v2 : Value) (b : List UInt8) (w : World) (hb : Bytes w v2 b) (hbl : b.length ≤ 140737488351232) (hv2 : vaB (Sup.mk xgen xep xblk xlog xst xpl xrt xcnt xver) xblk = false) :
    Calls Try.prog 6 #[.agg #[.int .i64 xgen, .int .i64 xep, .int .i64 xblk, .int .i64 xlog, .int .i64 xst, .int .i64 xpl, .int .i64 xrt, .int .i64 xcnt, .int .i64 xver], .int .i64 blocks, v2] w fun e w' => e = .returned (.bool true) ∧ Below w.heap.size w w' := by
  have HB := Lib.hid hb
  have HBL := Lib.hid hbl
  obtain ⟨a4, c4, e4, _⟩ := hb.len
  obtain ⟨n4, hn4⟩ : ∃ n4, n4 = b.length := ⟨_, rfl⟩
  rw [← hn4] at e4 hbl
  subst e4
  have N4 := Lib.hid hn4
  obtain ⟨v1, hv1⟩ : ∃ c, c = vaB (Sup.mk xgen xep xblk xlog xst xpl xrt xcnt xver) blocks := ⟨_, rfl⟩
  obtain ⟨⟨⟨ugen, uep, ublk, ulog, ust, upl, urt, ucnt, uver⟩, uk⟩, hu⟩ : ∃ r, r = decR b := ⟨_, rfl⟩
  obtain ⟨lb, hlb⟩ : ∃ l, l = layA (Sup.mk xgen xep xblk xlog xst xpl xrt xcnt xver) := ⟨_, rfl⟩
  have EN : Hid (∀ W, Calls Try.prog 11 #[.agg #[.int .i64 xgen, .int .i64 xep, .int .i64 xblk, .int .i64 xlog, .int .i64 xst, .int .i64 xpl, .int .i64 xrt, .int .i64 xcnt, .int .i64 xver]] W fun e w' => e = .returned (.tuple #[.slice none 0 0, .int .i64 1]) ∧ Below W.heap.size W w') := Lib.hid (fun W => enc_no (Sup.mk xgen xep xblk xlog xst xpl xrt xcnt xver) W hv2)
  have RN : Hid (∀ W, Calls Try.prog 26 #[.agg #[.int .i64 xgen, .int .i64 xep, .int .i64 xblk, .int .i64 xlog, .int .i64 xst, .int .i64 xpl, .int .i64 xrt, .int .i64 xcnt, .int .i64 xver]] W fun e w' => e = .returned (.tuple #[.slice none 0 0, .int .i64 1]) ∧ Below W.heap.size W w') := Lib.hid (fun W => renc_no (Sup.mk xgen xep xblk xlog xst xpl xrt xcnt xver) W hv2)
  have DC : Hid (∀ W v, Bytes W v b → Calls Try.prog 15 #[v] W fun e w' => e = .returned (.tuple #[.agg #[.int .i64 ugen, .int .i64 uep, .int .i64 ublk, .int .i64 ulog, .int .i64 ust, .int .i64 upl, .int .i64 urt, .int .i64 ucnt, .int .i64 uver], .int .i64 uk]) ∧ Below W.heap.size W w') := Lib.hid (fun W v hv => by have := dec_any v b W hv; rw [← hu] at this; exact this)
  have RC : Hid (∀ W v, Bytes W v b → Calls Try.prog 28 #[v] W fun e w' => e = .returned (.tuple #[.agg #[.int .i64 ugen, .int .i64 uep, .int .i64 ublk, .int .i64 ulog, .int .i64 ust, .int .i64 upl, .int .i64 urt, .int .i64 ucnt, .int .i64 uver], .int .i64 uk]) ∧ Below W.heap.size W w') := Lib.hid (fun W v hv => by have := rdec_any v b W hv; rw [← hu] at this; exact this)
  have VA1 : Hid (∀ W, Calls Try.prog 14 #[.agg #[.int .i64 xgen, .int .i64 xep, .int .i64 xblk, .int .i64 xlog, .int .i64 xst, .int .i64 xpl, .int .i64 xrt, .int .i64 xcnt, .int .i64 xver], .int .i64 blocks] W fun e w' => e = .returned (.bool v1) ∧ Below W.heap.size W w') := Lib.hid (fun W => by rw [hv1]; exact valid_any (Sup.mk xgen xep xblk xlog xst xpl xrt xcnt xver) blocks W)
  have RA1 : Hid (∀ W, Calls Try.prog 27 #[.agg #[.int .i64 xgen, .int .i64 xep, .int .i64 xblk, .int .i64 xlog, .int .i64 xst, .int .i64 xpl, .int .i64 xrt, .int .i64 xcnt, .int .i64 xver], .int .i64 blocks] W fun e w' => e = .returned (.bool v1) ∧ Below W.heap.size W w') := Lib.hid (fun W => by rw [hv1]; exact rvalid_any (Sup.mk xgen xep xblk xlog xst xpl xrt xcnt xver) blocks W)
  have VA2 : Hid (∀ W, Calls Try.prog 14 #[.agg #[.int .i64 xgen, .int .i64 xep, .int .i64 xblk, .int .i64 xlog, .int .i64 xst, .int .i64 xpl, .int .i64 xrt, .int .i64 xcnt, .int .i64 xver], .int .i64 xblk] W fun e w' => e = .returned (.bool false) ∧ Below W.heap.size W w') := Lib.hid (fun W => by have := valid_any (Sup.mk xgen xep xblk xlog xst xpl xrt xcnt xver) xblk W; rw [hv2] at this; exact this)
  have RA2 : Hid (∀ W, Calls Try.prog 27 #[.agg #[.int .i64 xgen, .int .i64 xep, .int .i64 xblk, .int .i64 xlog, .int .i64 xst, .int .i64 xpl, .int .i64 xrt, .int .i64 xcnt, .int .i64 xver], .int .i64 xblk] W fun e w' => e = .returned (.bool false) ∧ Below W.heap.size W w') := Lib.hid (fun W => by have := rvalid_any (Sup.mk xgen xep xblk xlog xst xpl xrt xcnt xver) xblk W; rw [hv2] at this; exact this)
  obtain ⟨X, hX⟩ : ∃ X, X = w.alloc (.cells #[.int .i64 xgen, .int .i64 xep, .int .i64 xblk, .int .i64 xlog, .int .i64 xst, .int .i64 xpl, .int .i64 xrt, .int .i64 xcnt, .int .i64 xver] 25) := ⟨_, rfl⟩
  obtain ⟨g3, hg3⟩ : ∃ g, g = w.heap.size := ⟨_, rfl⟩
  have BX : Hid (Below w.heap.size w X) := Lib.hid (by rw [hX]; exact (Below.refl _ _).alloc (Nat.le_refl _) _)
  have GX : Hid (X.heap[g3]? = some (.cells (Sup.mk xgen xep xblk xlog xst xpl xrt xcnt xver).arr 25 (0, 0))) := Lib.hid (by rw [hg3, hX]; exact heap_alloc_new _ _)
  have PW : Hid (∀ W : World, Below X.heap.size X W → Bytes W (.slice a4 n4 c4) b ∧ Below w.heap.size w W) := Lib.hid (fun W h => ⟨(HB.out.below BX.out).below h, BX.out.trans (h.mono BX.out.size)⟩)
  have KS : Hid (∀ W : World, Below X.heap.size X W → W.cell? ⟨g3, 0, none⟩ = some (.int .i64 xgen) ∧ W.cell? ⟨g3, 1, none⟩ = some (.int .i64 xep) ∧ W.cell? ⟨g3, 2, none⟩ = some (.int .i64 xblk) ∧ W.cell? ⟨g3, 3, none⟩ = some (.int .i64 xlog) ∧ W.cell? ⟨g3, 4, none⟩ = some (.int .i64 xst) ∧ W.cell? ⟨g3, 5, none⟩ = some (.int .i64 xpl) ∧ W.cell? ⟨g3, 6, none⟩ = some (.int .i64 xrt) ∧ W.cell? ⟨g3, 7, none⟩ = some (.int .i64 xcnt) ∧ W.cell? ⟨g3, 8, none⟩ = some (.int .i64 xver)) := Lib.hid (fun W h => sup_cells (s := (Sup.mk xgen xep xblk xlog xst xpl xrt xcnt xver)) ((h.block g3 (lt_of_heap GX.out)).trans GX.out))
  have OW4 : Hid (∀ W : World, Below X.heap.size X W → Calls Try.prog 16 #[.slice a4 n4 c4] W fun e w' => ∃ v', e = .returned v' ∧ Own W.heap.size w' v' b ∧ Below W.heap.size W w' ∧ Below X.heap.size X w') := Lib.hid (fun W h => by
    refine (ownW_any _ b W (PW.out W h).1 (by have := HBL.out; omega)).mono ?_
    rintro e w' ⟨v', h1, h2, h3⟩
    exact ⟨v', h1, h2, h3, h.trans (h3.mono h.size)⟩)
  have hX' := hX.symm
  have hg3' := hg3.symm
  clear hX hg3 GX hb hbl hn4 hv1 hu hlb hv2
  go_enter Try.func6, Try.ntmps6
  go_wp2_with fail
  refine (fixed_any X).mono ?_
  rintro _ w1 ⟨rfl, b1⟩
  have B1 := Lib.hid b1
  clear b1 hX' hg3'
  obtain ⟨y0, y1, y2, y3, y4, y5, y6, y7, y8⟩ := KS.out w1 B1.out
  go_wp2_with fail
  refine (EN.out w1).mono ?_
  rintro _ w2 ⟨rfl, b2⟩
  have B2 := Lib.hid (B1.out.trans (b2.mono B1.out.size))
  clear b2 y0 y1 y2 y3 y4 y5 y6 y7 y8
  obtain ⟨y0, y1, y2, y3, y4, y5, y6, y7, y8⟩ := KS.out w2 B2.out
  go_wp2_with fail
  refine (RN.out w2).mono ?_
  rintro _ w3 ⟨rfl, b3⟩
  have B3 := Lib.hid (B2.out.trans (b3.mono B2.out.size))
  have O3 : Hid (Bytes w3 (.slice none 0 0) [] ∧ Bytes w3 (.slice none 0 0) []) := Lib.hid ⟨Bytes.nil _, Bytes.nil _⟩
  clear b3 y0 y1 y2 y3 y4 y5 y6 y7 y8
  obtain ⟨y0, y1, y2, y3, y4, y5, y6, y7, y8⟩ := KS.out w3 B3.out
  have r0 : ∀ (dq : Nat) (os : Array Obj), (grow (redrawn w3 dq) os).cell? ⟨g3, 0, none⟩ = some (.int .i64 xgen) := fun dq os => cell_regrown y0 dq os
  have r1 : ∀ (dq : Nat) (os : Array Obj), (grow (redrawn w3 dq) os).cell? ⟨g3, 1, none⟩ = some (.int .i64 xep) := fun dq os => cell_regrown y1 dq os
  have r2 : ∀ (dq : Nat) (os : Array Obj), (grow (redrawn w3 dq) os).cell? ⟨g3, 2, none⟩ = some (.int .i64 xblk) := fun dq os => cell_regrown y2 dq os
  have r3 : ∀ (dq : Nat) (os : Array Obj), (grow (redrawn w3 dq) os).cell? ⟨g3, 3, none⟩ = some (.int .i64 xlog) := fun dq os => cell_regrown y3 dq os
  have r4 : ∀ (dq : Nat) (os : Array Obj), (grow (redrawn w3 dq) os).cell? ⟨g3, 4, none⟩ = some (.int .i64 xst) := fun dq os => cell_regrown y4 dq os
  have r5 : ∀ (dq : Nat) (os : Array Obj), (grow (redrawn w3 dq) os).cell? ⟨g3, 5, none⟩ = some (.int .i64 xpl) := fun dq os => cell_regrown y5 dq os
  have r6 : ∀ (dq : Nat) (os : Array Obj), (grow (redrawn w3 dq) os).cell? ⟨g3, 6, none⟩ = some (.int .i64 xrt) := fun dq os => cell_regrown y6 dq os
  have r7 : ∀ (dq : Nat) (os : Array Obj), (grow (redrawn w3 dq) os).cell? ⟨g3, 7, none⟩ = some (.int .i64 xcnt) := fun dq os => cell_regrown y7 dq os
  have r8 : ∀ (dq : Nat) (os : Array Obj), (grow (redrawn w3 dq) os).cell? ⟨g3, 8, none⟩ = some (.int .i64 xver) := fun dq os => cell_regrown y8 dq os
  have qA : Hid (∀ (dq : Nat) (os : Array Obj), Calls Try.prog 14 #[.agg #[.int .i64 xgen, .int .i64 xep, .int .i64 xblk, .int .i64 xlog, .int .i64 xst, .int .i64 xpl, .int .i64 xrt, .int .i64 xcnt, .int .i64 xver], .int .i64 blocks] (grow (redrawn w3 dq) os) fun e w'' => e = .returned (.bool v1) ∧ ∃ p : Regrown, w'' = grow (redrawn w3 p.d) p.os) := fun dq os => Calls.regrown_of (VA1.out _)
  have qB : Hid (∀ (dq : Nat) (os : Array Obj), Calls Try.prog 27 #[.agg #[.int .i64 xgen, .int .i64 xep, .int .i64 xblk, .int .i64 xlog, .int .i64 xst, .int .i64 xpl, .int .i64 xrt, .int .i64 xcnt, .int .i64 xver], .int .i64 blocks] (grow (redrawn w3 dq) os) fun e w'' => e = .returned (.bool v1) ∧ ∃ p : Regrown, w'' = grow (redrawn w3 p.d) p.os) := fun dq os => Calls.regrown_of (RA1.out _)
  have qC : Hid (∀ (dq : Nat) (os : Array Obj), Calls Try.prog 14 #[.agg #[.int .i64 xgen, .int .i64 xep, .int .i64 xblk, .int .i64 xlog, .int .i64 xst, .int .i64 xpl, .int .i64 xrt, .int .i64 xcnt, .int .i64 xver], .int .i64 xblk] (grow (redrawn w3 dq) os) fun e w'' => e = .returned (.bool false) ∧ ∃ p : Regrown, w'' = grow (redrawn w3 p.d) p.os) := fun dq os => Calls.regrown_of (VA2.out _)
  have qD : Hid (∀ (dq : Nat) (os : Array Obj), Calls Try.prog 27 #[.agg #[.int .i64 xgen, .int .i64 xep, .int .i64 xblk, .int .i64 xlog, .int .i64 xst, .int .i64 xpl, .int .i64 xrt, .int .i64 xcnt, .int .i64 xver], .int .i64 xblk] (grow (redrawn w3 dq) os) fun e w'' => e = .returned (.bool false) ∧ ∃ p : Regrown, w'' = grow (redrawn w3 p.d) p.os) := fun dq os => Calls.regrown_of (RA2.out _)
  have xB : Hid (∀ (dq : Nat) (os : Array Obj), Below w3.heap.size w3 (grow (redrawn w3 dq) os)) := fun dq os => below_regrown w3 dq os
  have qS : Hid (∀ (dq : Nat) (os : Array Obj), Calls Try.prog 18 #[.slice none 0 0, .slice none 0 0] (grow (redrawn w3 dq) os) fun e w'' => e = .returned (.bool true) ∧ ∃ p : Regrown, w'' = grow (redrawn w3 p.d) p.os) := fun dq os => by
    have := sameW_any _ _ ([] : List UInt8) ([] : List UInt8) (grow (redrawn w3 dq) os) (O3.out.1.below (xB.out dq os)) (O3.out.2.below (xB.out dq os))
    rw [decide_eq_true rfl] at this
    refine this.mono ?_
    rintro e w' ⟨rfl, rfl⟩
    exact ⟨rfl, ⟨dq, os⟩, rfl⟩
  clear EN RN VA1 RA1 VA2 RA2 y0 y1 y2 y3 y4 y5 y6 y7 y8 B1 B2
  go_wp2_with fail
  refine wp_region_quiet_below (by kernel_rfl) (by kernel_rfl) ?_
  repeat (go_big_quiet_step (first | with_reducible exact qA.out _ _ | with_reducible exact qB.out _ _ | with_reducible exact qC.out _ _ | with_reducible exact qD.out _ _ | with_reducible exact qS.out _ _))
  refine wpQuiet_nil ?_
  intro _ hw'
  obtain ⟨⟨dq, osq⟩, hw''⟩ := hw'
  subst hw''
  have B4 := Lib.hid (B3.out.trans ((xB.out dq osq).mono B3.out.size))
  obtain ⟨w4, hw4⟩ : ∃ W, W = grow (redrawn w3 dq) osq := ⟨_, rfl⟩
  rw [← hw4] at B4 ⊢
  clear hw4 qA qB qC qD qS xB r0 r1 r2 r3 r4 r5 r6 r7 r8 O3 B3 KS
  go_wp2_with fail
  refine (OW4.out w4 B4.out).mono ?_
  rintro _ w9 ⟨u9, rfl, ho9, hb9, _⟩
  have O9 := Lib.hid ho9
  have BB9 := Lib.hid hb9
  obtain ⟨a9, n9, c9, e9⟩ : ∃ a n c, u9 = .slice a n c := by obtain ⟨a, c, e, _⟩ := ho9.bytes.len; exact ⟨a, _, c, e⟩
  subst e9
  clear ho9 hb9
  go_wp2_with (at_builtin; refine app3 rfl (.tmp 60) (.tmp 61) rfl rfl O9.out BB9.out.size rfl HBL.out ?_)
  intro u10 w10 o10 g10
  have B10 : Hid (Below w4.heap.size w4 w10) := Lib.hid (BB9.out.trans (grown_below g10 O9.out BB9.out.size))
  have XB10 : Hid (Below X.heap.size X w10) := Lib.hid (B4.out.trans (B10.out.mono B4.out.size))
  obtain ⟨a10, c10, e10, l10, m10⟩ := o10.bytes.len
  obtain ⟨n10, hn10⟩ : ∃ n10, n10 = (b ++ [165, 166, 167]).length := ⟨_, rfl⟩
  rw [← hn10] at e10 l10
  subst e10
  have O10 := Lib.hid o10
  have N10 : Hid (n10 = n4 + 3) := Lib.hid (by rw [hn10, List.length_append, N4.out]; rfl)
  have q1 : (n4 : Int) ≤ (c10 : Int) := by have := N10.out; omega
  have q2 : n4 ≤ c10 := by omega
  have SB : Hid (Bytes w10 (.slice a10 n4 c10) b) := Lib.hid (by
    have hb := O10.out.bytes
    rw [hn10] at hb
    have ht := hb.take n4 (by rw [List.length_append]; have := N4.out; omega)
    rw [N4.out, List.take_left' rfl, ← N4.out] at ht
    exact ht)
  unfold maxLen at m10
  clear o10 g10 O9 BB9 hn10 B10 B4
  go_wp2_with fail
  refine (DC.out w10 _ SB.out).mono ?_
  rintro _ w11 ⟨rfl, b11⟩
  have B11 : Hid (Below w10.heap.size w10 w11) := Lib.hid b11
  obtain ⟨g13, hg13⟩ : ∃ g, g = w11.heap.size := ⟨_, rfl⟩
  have hg13' := hg13.symm
  have H13 := Lib.hid hg13
  clear b11 SB q1 q2 hg13 DC
  have B12 : Hid (Below w10.heap.size w10 (w11.alloc (.cells #[.int .i64 ugen, .int .i64 uep, .int .i64 ublk, .int .i64 ulog, .int .i64 ust, .int .i64 upl, .int .i64 urt, .int .i64 ucnt, .int .i64 uver] 25)) ∧ Below X.heap.size X (w11.alloc (.cells #[.int .i64 ugen, .int .i64 uep, .int .i64 ublk, .int .i64 ulog, .int .i64 ust, .int .i64 upl, .int .i64 urt, .int .i64 ucnt, .int .i64 uver] 25))) := Lib.hid (by
    have q1 := B11.out.alloc B11.out.size (.cells #[.int .i64 ugen, .int .i64 uep, .int .i64 ublk, .int .i64 ulog, .int .i64 ust, .int .i64 upl, .int .i64 urt, .int .i64 ucnt, .int .i64 uver] 25)
    exact ⟨q1, XB10.out.trans (q1.mono XB10.out.size)⟩)
  go_wp2_with fail
  refine (OW4.out _ B12.out.2).mono ?_
  rintro _ w13 ⟨u13, rfl, o13, b13, x13⟩
  have B13 : Hid (Below w10.heap.size w10 w13 ∧ Below X.heap.size X w13 ∧ w13.heap[g13]? = some (.cells (Sup.mk ugen uep ublk ulog ust upl urt ucnt uver).arr 25 (0, 0))) := Lib.hid ⟨B12.out.1.trans (b13.mono B12.out.1.size), x13, by rw [H13.out, b13.block _ (by simp)]; exact heap_alloc_new _ _⟩
  have RD := Lib.hid (RC.out w13 u13 o13.bytes)
  obtain ⟨a13, n13, c13, e13⟩ : ∃ a n c, u13 = .slice a n c := by obtain ⟨a, c, e, _⟩ := o13.bytes.len; exact ⟨a, _, c, e⟩
  subst e13
  clear o13 b13 x13 B12 B11 RC hg13' H13
  go_wp2_with fail
  refine RD.out.mono ?_
  rintro _ w14 ⟨rfl, b14⟩
  have B14 : Hid (Below w10.heap.size w10 w14 ∧ Below X.heap.size X w14 ∧ w14.heap[g13]? = some (.cells (Sup.mk ugen uep ublk ulog ust upl urt ucnt uver).arr 25 (0, 0))) := Lib.hid ⟨B13.out.1.trans (b14.mono B13.out.1.size), B13.out.2.1.trans (b14.mono B13.out.2.1.size), (b14.block _ (lt_of_heap B13.out.2.2)).trans B13.out.2.2⟩
  clear b14 RD B13
  have A14 : ∀ ob, Below w14.heap.size w14 (w14.alloc ob) := fun ob => (Below.refl _ _).alloc (Nat.le_refl _) ob
  have s0 : ∀ ob, (w14.alloc ob).cell? ⟨g13, 0, none⟩ = some (.int .i64 ugen) := fun ob => (sup_cells (s := (Sup.mk ugen uep ublk ulog ust upl urt ucnt uver)) (((A14 ob).block _ (lt_of_heap B14.out.2.2)).trans B14.out.2.2)).1
  have s1 : ∀ ob, (w14.alloc ob).cell? ⟨g13, 1, none⟩ = some (.int .i64 uep) := fun ob => (sup_cells (s := (Sup.mk ugen uep ublk ulog ust upl urt ucnt uver)) (((A14 ob).block _ (lt_of_heap B14.out.2.2)).trans B14.out.2.2)).2.1
  have s2 : ∀ ob, (w14.alloc ob).cell? ⟨g13, 2, none⟩ = some (.int .i64 ublk) := fun ob => (sup_cells (s := (Sup.mk ugen uep ublk ulog ust upl urt ucnt uver)) (((A14 ob).block _ (lt_of_heap B14.out.2.2)).trans B14.out.2.2)).2.2.1
  have s3 : ∀ ob, (w14.alloc ob).cell? ⟨g13, 3, none⟩ = some (.int .i64 ulog) := fun ob => (sup_cells (s := (Sup.mk ugen uep ublk ulog ust upl urt ucnt uver)) (((A14 ob).block _ (lt_of_heap B14.out.2.2)).trans B14.out.2.2)).2.2.2.1
  have s4 : ∀ ob, (w14.alloc ob).cell? ⟨g13, 4, none⟩ = some (.int .i64 ust) := fun ob => (sup_cells (s := (Sup.mk ugen uep ublk ulog ust upl urt ucnt uver)) (((A14 ob).block _ (lt_of_heap B14.out.2.2)).trans B14.out.2.2)).2.2.2.2.1
  have s5 : ∀ ob, (w14.alloc ob).cell? ⟨g13, 5, none⟩ = some (.int .i64 upl) := fun ob => (sup_cells (s := (Sup.mk ugen uep ublk ulog ust upl urt ucnt uver)) (((A14 ob).block _ (lt_of_heap B14.out.2.2)).trans B14.out.2.2)).2.2.2.2.2.1
  have s6 : ∀ ob, (w14.alloc ob).cell? ⟨g13, 6, none⟩ = some (.int .i64 urt) := fun ob => (sup_cells (s := (Sup.mk ugen uep ublk ulog ust upl urt ucnt uver)) (((A14 ob).block _ (lt_of_heap B14.out.2.2)).trans B14.out.2.2)).2.2.2.2.2.2.1
  have s7 : ∀ ob, (w14.alloc ob).cell? ⟨g13, 7, none⟩ = some (.int .i64 ucnt) := fun ob => (sup_cells (s := (Sup.mk ugen uep ublk ulog ust upl urt ucnt uver)) (((A14 ob).block _ (lt_of_heap B14.out.2.2)).trans B14.out.2.2)).2.2.2.2.2.2.2.1
  have s8 : ∀ ob, (w14.alloc ob).cell? ⟨g13, 8, none⟩ = some (.int .i64 uver) := fun ob => (sup_cells (s := (Sup.mk ugen uep ublk ulog ust upl urt ucnt uver)) (((A14 ob).block _ (lt_of_heap B14.out.2.2)).trans B14.out.2.2)).2.2.2.2.2.2.2.2
  have B15 : Hid (Below w10.heap.size w10 (w14.alloc (.cells #[.int .i64 ugen, .int .i64 uep, .int .i64 ublk, .int .i64 ulog, .int .i64 ust, .int .i64 upl, .int .i64 urt, .int .i64 ucnt, .int .i64 uver] 25)) ∧ Below X.heap.size X (w14.alloc (.cells #[.int .i64 ugen, .int .i64 uep, .int .i64 ublk, .int .i64 ulog, .int .i64 ust, .int .i64 upl, .int .i64 urt, .int .i64 ucnt, .int .i64 uver] 25))) := Lib.hid ⟨B14.out.1.trans ((A14 _).mono B14.out.1.size), B14.out.2.1.trans ((A14 _).mono B14.out.2.1.size)⟩
  clear A14
  go_wp2_with fail
  refine (OW4.out _ B15.out.2).mono ?_
  rintro _ w16 ⟨u16, rfl, o16, b16, x16⟩
  obtain ⟨WA, hWA⟩ : ∃ W, W = w14.alloc (.cells #[.int .i64 ugen, .int .i64 uep, .int .i64 ublk, .int .i64 ulog, .int .i64 ust, .int .i64 upl, .int .i64 urt, .int .i64 ucnt, .int .i64 uver] 25) := ⟨_, rfl⟩
  rw [← hWA] at o16 b16 B15
  have O16 := Lib.hid (And.intro o16 b16)
  obtain ⟨a16, n16, c16, e16⟩ : ∃ a n c, u16 = .slice a n c := by obtain ⟨a, c, e, _⟩ := o16.bytes.len; exact ⟨a, _, c, e⟩
  subst e16
  clear o16 b16 x16 hWA s0 s1 s2 s3 s4 s5 s6 s7 s8
  go_wp2_with (at_builtin; refine app3g (.tmp 88) (.tmp 89) rfl rfl rfl O16.out.1 O16.out.2.size rfl HBL.out ?_)
  intro u17 w17 o17 g17
  have B17 : Hid (Below w10.heap.size w10 w17 ∧ Below X.heap.size X w17) := Lib.hid (by
    have q1 := O16.out.2.trans (grown_below g17 O16.out.1 O16.out.2.size)
    exact ⟨B15.out.1.trans (q1.mono B15.out.1.size), B15.out.2.trans (q1.mono B15.out.2.size)⟩)
  obtain ⟨a17, n17, c17, e17⟩ : ∃ a n c, u17 = .slice a n c := by obtain ⟨a, c, e, _⟩ := o17.bytes.len; exact ⟨a, _, c, e⟩
  subst e17
  have S17 : Hid (Calls Try.prog 18 #[.slice a10 n10 c10, .slice a17 n17 c17] w17 fun e w' => e = .returned (.bool true) ∧ w' = w17) := Lib.hid (by
    have := sameW_any _ _ (b ++ [165, 166, 167]) (b ++ [165, 166, 167]) w17 (O10.out.below B17.out.1).bytes o17.bytes
    rw [decide_eq_true rfl] at this
    exact this)
  clear o17 g17 O16 B15
  go_wp2_with fail
  refine S17.out.mono ?_
  rintro _ w18 ⟨rfl, e18⟩
  obtain rfl := e18.symm
  go_wp2_with fail
  go_ret
  exact ⟨rfl, (PW.out w17 B17.out.2).2⟩
end Go.Proofs.Ythjekiddjldehaa
