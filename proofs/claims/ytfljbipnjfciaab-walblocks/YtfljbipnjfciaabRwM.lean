/-
  RwC, RwD, joined.
-/
import Derived.Test.YtfljbipnjfciaabRwA
import Derived.Test.YtfljbipnjfciaabRwB
import Derived.Test.YtfljbipnjfciaabWaD
import Derived.Test.YtfljbipnjfciaabWaE
section S0
namespace Go.Proofs.Ytfljbipnjfciaab
open Go.RowKit Go.Maps
theorem upd_app (a b : List (BitVec 8)) : Sm.upd (Sm.upd 0#32 a) b = Sm.upd 0#32 (a ++ b) := by
  unfold Sm.upd
  rw [BitVec.not_not, Sm.over_app]
set_option maxHeartbeats 1000000 in
theorem sumOf_any (gb : Nat) (l : List UInt8) (w : World) (hv : Bytes w (.slice (some ⟨gb, 0, none⟩) 512 512) l) (hl : l.length = 512) :
    Calls Try.prog 34 #[.slice (some ⟨gb, 0, none⟩) 512 512] w fun e w' => e = .returned (.int .u32 (crc (l.take 28 ++ l.drop 32) : Int)) ∧ w' = w := by
  have hv' : Bytes w (.slice (some ⟨gb, 0, none⟩) l.length 512) l := by rw [hl]; exact hv
  have h1 : Bytes w (.slice (some ⟨gb, 0, none⟩) 28 512) (l.take 28) := hv'.take 28 (by omega)
  have h2 : Bytes w (.slice (some ⟨gb, 32, none⟩) 480 480) (l.drop 32) := by
    have := hv'.drop 32 (by omega)
    rw [hl] at this
    simpa [add_plain] using this
  have S1 := Lib.hid (Sm.rsum_any _ _ w (sm_bytes h1))
  have S2 := Lib.hid (Sm.rupdate_any (Sm.upd 0#32 ((l.take 28).map (·.toBitVec))) _ _ w (sm_bytes h2))
  have E : Hid (Sm.u (Sm.upd (Sm.upd 0#32 ((l.take 28).map (·.toBitVec))) ((l.drop 32).map (·.toBitVec))) = (crc (l.take 28 ++ l.drop 32) : Int)) := Lib.hid (by
    rw [upd_app, ← List.map_append]; rfl)
  obtain ⟨u1, hu1⟩ : ∃ u1, u1 = Sm.u (Sm.upd 0#32 ((l.take 28).map (·.toBitVec))) := ⟨_, rfl⟩
  rw [← hu1] at S1 S2
  rw [E.out] at S2
  clear hv hv' h1 h2 hu1 E
  go_enter Try.func34, Try.ntmps34
  go_wp2_with fail
  refine S1.out.mono ?_
  rintro _ w1 ⟨rfl, e1⟩
  obtain rfl := e1.symm
  go_wp2_with fail
  refine S2.out.mono ?_
  rintro _ w1 ⟨rfl, e1⟩
  obtain rfl := e1.symm
  go_wp2_with fail
  go_ret
  exact ⟨rfl, rfl⟩
def lw7 (g : Grp) (p : List UInt8) : List UInt8 := splice (splice (ly6 g p) 496 (leB 8 g.ep.toNat)) 504 (leB 8 g.st.toNat)
theorem lw7_eq (g : Grp) (p : List UInt8) (h : p.length ≤ 464) : lw7 g p = ly7 g p := by
  unfold lw7
  rw [ly7_eq g p h, ly6_eq g p h]
  have e16 : zs 16 = zs 8 ++ zs 8 := by rw [zs_app]
  rw [e16]
  have a1 : hdB g ++ (zs 4 ++ (p ++ (zs (464 - p.length) ++ (zs 8 ++ zs 8)))) = (hdB g ++ (zs 4 ++ (p ++ zs (464 - p.length)))) ++ (zs 8 ++ zs 8) := by simp only [List.append_assoc]
  have al : (hdB g ++ (zs 4 ++ (p ++ zs (464 - p.length)))).length = 496 := by simp [hdB_length]; omega
  rw [a1, spA _ _ _ 496 0 (by rw [al]), sp0 _ _ _ (by rw [leB_length, List.length_replicate])]
  rw [spA _ _ _ 504 8 (by rw [al]), spA _ _ _ 8 0 (by rw [leB_length])]
  have e0 : splice (zs 8) 0 (leB 8 g.st.toNat) = leB 8 g.st.toNat := by
    have := sp0 (zs 8) [] (leB 8 g.st.toNat) (by rw [leB_length, List.length_replicate])
    simpa using this
  rw [e0]
  unfold bdB
  simp only [List.append_assoc]
theorem lw8_eq (g : Grp) (p : List UInt8) (h : p.length ≤ 464) : splice (lw7 g p) 28 (leB 4 (crc ((lw7 g p).take 28 ++ (lw7 g p).drop 32))) = layB g p := by
  rw [lw7_eq g p h]; exact ly8_eq g p h
end Go.Proofs.Ytfljbipnjfciaab
end S0

section S1
namespace Go.Proofs.Ytfljbipnjfciaab
open Go.RowKit Go.Maps
theorem set_cells8 (L : List UInt8) (k : Nat) (c : UInt8) : (cells8 L).toArray.setIfInBounds k (.int .u8 (c8 c)) = (cells8 (L.set k c)).toArray := by
  apply Array.ext'
  rw [Array.toList_setIfInBounds]
  unfold cells8
  rw [List.map_set]
set_option maxRecDepth 100000 in
set_option maxHeartbeats 2000000 in
theorem rblk_no (g : Grp) (v : Value) (p : List UInt8) (w : World) (hv : Bytes w v p) (hva : valG g = false) :
    Calls Try.prog 8 #[.agg g.arr, v] w fun e w' => e = .returned (.tuple #[.slice none 0 0, .int .i64 1]) ∧ Below w.heap.size w w' := by
  obtain ⟨a, cap, rfl, hlc, hcm, _, _⟩ := hv
  unfold maxLen at hcm
  have BB := Lib.hid (box_below w g)
  have VA : Hid (∀ W, Below w.heap.size w W → Calls Try.prog 31 #[.agg g.arr] W fun e w' => e = .returned (.bool false) ∧ Below w.heap.size w w') := Lib.hid (fun W hb => by
    refine (rright_any g W).mono ?_
    rintro e w' ⟨rfl, hb2⟩
    exact ⟨by rw [hva], hb.trans (hb2.mono hb.size)⟩)
  obtain ⟨ep, st, ix, tot, by_⟩ := g
  unfold Grp.arr at BB VA ⊢
  simp only at BB VA ⊢
  clear hva
  go_enter Try.func8, Try.ntmps8
  go_wp2_with fail
  refine (VA.out _ BB.out).mono ?_
  rintro e w2 ⟨rfl, hb2⟩
  have B2 := Lib.hid hb2
  clear hb2
  go_wp2_with fail
  go_ret2
  exact ⟨rfl, B2.out⟩
set_option maxRecDepth 100000 in
set_option maxHeartbeats 2000000 in
theorem rblk_len (g : Grp) (v : Value) (p : List UInt8) (w : World) (hv : Bytes w v p) (hva : valG g = true) (hne : (p.length : Int) ≠ shG g) :
    Calls Try.prog 8 #[.agg g.arr, v] w fun e w' => e = .returned (.tuple #[.slice none 0 0, .int .i64 1]) ∧ Below w.heap.size w w' := by
  obtain ⟨a, cap, rfl, hlc, hcm, _, _⟩ := hv
  unfold maxLen at hcm
  have VA : Hid (∀ W, Calls Try.prog 31 #[.agg g.arr] W fun e w' => e = .returned (.bool true) ∧ Below W.heap.size W w') := Lib.hid (fun W => by rw [← hva]; exact rright_any g W)
  have SH : Hid (∀ W, Calls Try.prog 32 #[.agg g.arr] W fun e w' => e = .returned (.int .i64 (shG g)) ∧ Below W.heap.size W w') := Lib.hid (fun W => rshare_any g ((val_iff g).1 hva) W)
  obtain ⟨sh, hsh⟩ : ∃ sh, sh = shG g := ⟨_, rfl⟩
  rw [← hsh] at hne SH
  obtain ⟨n, hn⟩ : ∃ n, n = p.length := ⟨_, rfl⟩
  rw [← hn] at hlc hne ⊢
  have f1 : ((n : Int) == sh) = false := by rw [beq_eq_false_iff_ne]; exact hne
  have f2 : ((n : Int) != sh) = true := by unfold bne; rw [f1]; rfl
  obtain ⟨X, hX⟩ : ∃ X, X = w.alloc (.cells g.arr 23) := ⟨_, rfl⟩
  have BX : Hid (Below w.heap.size w X) := Lib.hid (by rw [hX]; exact box_below w g)
  have GX : Hid (X.heap[w.heap.size]? = some (.cells g.arr 23 (0, 0))) := Lib.hid (by rw [hX]; exact heap_alloc_new _ _)
  obtain ⟨ep, st, ix, tot, by_⟩ := g
  have KS : Hid (∀ W : World, Below X.heap.size X W → W.cell? ⟨w.heap.size, 0, none⟩ = some (.int .i64 ep) ∧ W.cell? ⟨w.heap.size, 1, none⟩ = some (.int .i64 st) ∧ W.cell? ⟨w.heap.size, 2, none⟩ = some (.int .i64 ix) ∧ W.cell? ⟨w.heap.size, 3, none⟩ = some (.int .i64 tot) ∧ W.cell? ⟨w.heap.size, 4, none⟩ = some (.int .i64 by_)) := Lib.hid (fun W h => by
    have := (h.block _ (lt_of_heap GX.out)).trans GX.out
    refine ⟨?_, ?_, ?_, ?_, ?_⟩ <;> (rw [cell_of_row W w.heap.size _ _ _ _ this]; rfl))
  unfold Grp.arr at hX VA SH ⊢
  simp only at hX VA SH ⊢
  obtain ⟨y0, y1, y2, y3, y4⟩ := KS.out X (Below.refl _ _)
  have hX' := hX.symm
  clear hva hne hsh hn hX
  go_enter Try.func8, Try.ntmps8
  go_wp2_with fail
  refine (VA.out _).mono ?_
  rintro e w2 ⟨rfl, b2⟩
  have B2 := Lib.hid b2
  obtain ⟨x0, x1, x2, x3, x4⟩ := KS.out w2 b2
  clear b2 y0 y1 y2 y3 y4
  go_wp2_with fail
  refine (SH.out _).mono ?_
  rintro e w3 ⟨rfl, b3⟩
  have B3 := Lib.hid (BX.out.trans ((B2.out.trans (b3.mono B2.out.size)).mono BX.out.size))
  clear b3
  go_wp2_with fail
  go_ret2
  exact ⟨rfl, B3.out⟩
set_option maxHeartbeats 8000000 in
set_option maxRecDepth 100000 in
theorem rblk_nat (e s i t y : Nat) (hval : Val (grp e s i t y)) (v : Value) (p : List UInt8) (hsh : (p.length : Int) = shG (grp e s i t y)) (w : World) (hv : Bytes w v p) :
    Calls Try.prog 8 #[.agg (grp e s i t y).arr, v] w fun r w' => ∃ gb, r = .returned (.tuple #[.slice (some ⟨gb, 0, none⟩) 512 512, .int .i64 0]) ∧ Own w.heap.size w' (.slice (some ⟨gb, 0, none⟩) 512 512) (layB (grp e s i t y) p) ∧ Below w.heap.size w w' := by
  have hp : p.length ≤ 464 := by have := hval.share; omega
  have he := hval.e2
  have hs := hval.s2
  have hi := hval.i2
  have ht := hval.t2
  have hy := hval.b2
  simp only at he hs hi ht hy
  have VA : Hid (∀ W, Calls Try.prog 31 #[.agg (grp e s i t y).arr] W fun e w' => e = .returned (.bool true) ∧ Below W.heap.size W w') := Lib.hid (fun W => by rw [← (val_iff _).2 hval]; exact rright_any _ W)
  have SH : Hid (∀ W, Calls Try.prog 32 #[.agg (grp e s i t y).arr] W fun e w' => e = .returned (.int .i64 (p.length : Int)) ∧ Below W.heap.size W w') := Lib.hid (fun W => by rw [hsh]; exact rshare_any _ hval W)
  have LN := Lib.hid (ly_len (grp e s i t y) p hp)
  have EQ := Lib.hid (lw8_eq (grp e s i t y) p hp)
  have E7 := Lib.hid (lw7_eq (grp e s i t y) p hp)
  obtain ⟨G, hG⟩ : ∃ G, G = grp e s i t y := ⟨_, rfl⟩
  have GA : Hid (G.arr = #[.int .i64 (e : Int), .int .i64 (s : Int), .int .i64 (i : Int), .int .i64 (t : Int), .int .i64 (y : Int)]) := Lib.hid (by rw [hG]; rfl)
  have L0 : Hid (ly1 G = splice ly0 2 (leB 2 i) ∧ ly2 G = splice (ly1 G) 4 (leB 2 t) ∧ ly3 G = splice (ly2 G) 8 (leB 8 e) ∧ ly4 G = splice (ly3 G) 16 (leB 8 s) ∧ ly5 G = splice (ly4 G) 24 (leB 4 y) ∧ ly6 G p = splice (ly5 G) 32 p ∧ lw7 G p = splice (splice (ly6 G p) 496 (leB 8 e)) 504 (leB 8 s)) := Lib.hid (by rw [hG]; exact ⟨rfl, rfl, rfl, rfl, rfl, rfl, rfl⟩)
  rw [← hG] at VA SH LN EQ E7 ⊢
  rw [GA.out] at VA SH ⊢
  have V := Lib.hid hv
  obtain ⟨av, cap, rfl, hlc, hcm, hnv, hcv⟩ := hv
  unfold maxLen at hcm
  obtain ⟨pl, hpl⟩ : ∃ pl, pl = p.length := ⟨_, rfl⟩
  have HC2 : Hid (∀ W, Below w.heap.size w W → ∀ k, k < pl → ∃ b off, av = some ⟨b, off, none⟩ ∧ W.cell? ⟨b, off + k, none⟩ = some (.int .u8 (c8 (p.getD k 0)))) := Lib.hid (fun W hb k hk => by
    obtain ⟨a', c', h1, _, _, _, h2⟩ := V.out.below hb
    obtain ⟨b, off, h3, h4⟩ := h2 k (by rw [← hpl]; exact hk)
    injection h1 with q1 q2 q3
    exact ⟨b, off, by rw [q1, h3], h4⟩)
  rw [← hpl] at hlc hp SH ⊢
  have PL := Lib.hid hpl
  obtain ⟨X0, hX0⟩ : ∃ X0, X0 = w.alloc (.cells #[.int .i64 (e : Int), .int .i64 (s : Int), .int .i64 (i : Int), .int .i64 (t : Int), .int .i64 (y : Int)] 23) := ⟨_, rfl⟩
  obtain ⟨gx, hgx⟩ : ∃ gx, gx = w.heap.size := ⟨_, rfl⟩
  have BX : Hid (Below w.heap.size w X0) := Lib.hid (by rw [hX0]; exact (Below.refl _ _).alloc (Nat.le_refl _) _)
  have GX : Hid (X0.heap[gx]? = some (.cells G.arr 23 (0, 0)) ∧ w.heap.size ≤ gx) := Lib.hid ⟨by rw [hgx, hX0, GA.out]; exact heap_alloc_new _ _, by omega⟩
  have KS : Hid (∀ W : World, W.heap[gx]? = some (.cells G.arr 23 (0, 0)) → W.cell? ⟨gx, 0, none⟩ = some (.int .i64 (e : Int)) ∧ W.cell? ⟨gx, 1, none⟩ = some (.int .i64 (s : Int)) ∧ W.cell? ⟨gx, 2, none⟩ = some (.int .i64 (i : Int)) ∧ W.cell? ⟨gx, 3, none⟩ = some (.int .i64 (t : Int)) ∧ W.cell? ⟨gx, 4, none⟩ = some (.int .i64 (y : Int))) := Lib.hid (fun W h => by
    rw [GA.out] at h
    refine ⟨?_, ?_, ?_, ?_, ?_⟩ <;> (rw [cell_of_row W gx _ _ _ _ h]; rfl))
  obtain ⟨y0, y1, y2, y3, y4⟩ := KS.out X0 GX.out.1
  have hX0' := hX0.symm
  have hgx' := hgx.symm
  clear hval hsh hG hcv hnv hpl hX0 hgx
  go_enter Try.func8, Try.ntmps8
  go_wp2_with fail
  refine (VA.out _).mono ?_
  rintro _ w2 ⟨rfl, b2⟩
  have B2 := Lib.hid b2
  have G2 := Lib.hid ((b2.block gx (lt_of_heap GX.out.1)).trans GX.out.1)
  obtain ⟨x0, x1, x2, x3, x4⟩ := KS.out w2 G2.out
  clear b2 y0 y1 y2 y3 y4 hX0' hgx' VA
  go_wp2_with fail
  refine (SH.out _).mono ?_
  rintro _ w3 ⟨rfl, b3⟩
  have B3 := Lib.hid (BX.out.trans ((B2.out.trans (b3.mono B2.out.size)).mono BX.out.size))
  have G3 := Lib.hid ((b3.block gx (lt_of_heap G2.out)).trans G2.out)
  clear b3 x0 x1 x2 x3 x4 SH B2 G2
  obtain ⟨R, hR⟩ : ∃ R : List UInt8, R = List.replicate 512 0 := ⟨_, rfl⟩
  have RL : R.length = 512 := by rw [hR, List.length_replicate]
  have LY0 : ly0 = (R.set 0 183).set 1 1 := by rw [hR]; rfl
  obtain ⟨gb, hgb⟩ : ∃ gb, gb = w3.heap.size := ⟨_, rfl⟩
  obtain ⟨Y, hY⟩ : ∃ Y, Y = w3.alloc (.cells (madeCells #[.int .u8 0] 512) 5) := ⟨_, rfl⟩
  have hm : (Instr.makeSlice 24 (.int .i64 512) (.int .i64 512)).run Try.prog w3 = .ok (.slice (some ⟨gb, 0, none⟩) 512 512) Y := by rw [hY, hgb]; exact make_bytes w3 512 512 rfl rfl (Nat.le_refl _) (by decide)
  have Yb : Y.heap[gb]? = some (.cells (cells8 R).toArray 5 (0, 0)) := by rw [hY, hgb, heap_alloc_new, made_zeros, hR]
  have YY : Ly w Y gx gb G R := ⟨by have := lt_of_heap G3.out; omega, ⟨GX.out.2, by rw [hgb]; exact B3.out.size⟩, by rw [hY, Below.heap_alloc _ _ _ (lt_of_heap G3.out)]; exact G3.out, Yb, by rw [hY]; exact B3.out.alloc B3.out.size _⟩
  obtain ⟨Z1, hZ1⟩ : ∃ Z1, Z1 = Y.setCell ⟨gb, 0, none⟩ (.int .u8 183) := ⟨_, rfl⟩
  obtain ⟨Z2, hZ2⟩ : ∃ Z2, Z2 = Z1.setCell ⟨gb, 1, none⟩ (.int .u8 1) := ⟨_, rfl⟩
  have e183 : (Value.int .u8 183) = .int .u8 (c8 183) := rfl
  have e1 : (Value.int .u8 1) = .int .u8 (c8 1) := rfl
  have Z1b : Z1.heap[gb]? = some (.cells (cells8 (R.set 0 183)).toArray 5 (0, 0)) := by rw [hZ1, heap_setCell_same _ _ _ _ _ _ Yb, e183, set_cells8]
  have c0 : ∃ u, Y.cell? ⟨gb, 0, none⟩ = some u := by rw [cell_of_row _ _ _ _ _ _ Yb]; exact ⟨_, Array.getElem?_eq_getElem (by rw [List.size_toArray, cells8_length, RL]; omega)⟩
  have c1 : ∃ u, Z1.cell? ⟨gb, 1, none⟩ = some u := by rw [cell_of_row _ _ _ _ _ _ Z1b]; exact ⟨_, Array.getElem?_eq_getElem (by rw [List.size_toArray, cells8_length, List.length_set, RL]; omega)⟩
  have f0 : Y.frozen? ⟨gb, 0, none⟩ = false := frozen_of_row _ _ _ _ _ Yb
  have f1 : Z1.frozen? ⟨gb, 1, none⟩ = false := frozen_of_row _ _ _ _ _ Z1b
  obtain ⟨u0, c0⟩ := c0
  obtain ⟨u1, c1⟩ := c1
  have H0 : Hid (Ly w Z2 gx gb G ly0) := Lib.hid (by
    have q1 := YY.upd (L' := R.set 0 183) (kept_set (F := fun k => k = gb) Y _ _ rfl) (by rw [← hZ1]; exact Z1b)
    rw [← hZ1] at q1
    rw [hZ2]
    refine q1.upd (kept_set (F := fun k => k = gb) Z1 _ _ rfl) ?_
    rw [heap_setCell_same _ _ _ _ _ _ Z1b, e1, set_cells8, LY0])
  have PUT : Hid (∀ (W : World) (L : List UInt8) (o n x : Nat), Ly w W gx gb G L → L.length = 512 → n ≤ 8 → o + n ≤ 512 → x < 9223372036854775808 → Calls Try.prog 33 #[.slice (some ⟨gb, 0, none⟩) 512 512, .int .i64 (o : Int), .int .i64 (x : Int), .int .i64 (n : Int)] W fun r w' => r = .returned (.tuple #[]) ∧ Ly w w' gx gb G (splice L o (leB n x))) := Lib.hid (fun W L o n x h q1 q2 q3 q4 => by
    refine (rput_any gb o n x L W h.bb q2 q1 q3 q4).mono ?_
    rintro r w' ⟨h1, h2, h3⟩
    exact ⟨h1, h.upd h3 h2⟩)
  have FL : Hid (∀ {W : World} {L : List UInt8}, Ly w W gx gb G L → W.cell? ⟨gx, 0, none⟩ = some (.int .i64 (e : Int)) ∧ W.cell? ⟨gx, 1, none⟩ = some (.int .i64 (s : Int)) ∧ W.cell? ⟨gx, 2, none⟩ = some (.int .i64 (i : Int)) ∧ W.cell? ⟨gx, 3, none⟩ = some (.int .i64 (t : Int)) ∧ W.cell? ⟨gx, 4, none⟩ = some (.int .i64 (y : Int))) := Lib.hid (fun h => KS.out _ h.bx)
  have z2 := (FL.out H0.out).2.2.1
  have hZ1' := hZ1.symm
  have hZ2' := hZ2.symm
  have hgb' := hgb.symm
  clear hR RL LY0 e183 e1 hY hZ1 hZ2 Yb Z1b YY hgb KS
  go_wp2_with fail
  refine (PUT.out _ _ 2 2 i H0.out LN.out.1 (by decide) (by decide) (by omega)).mono ?_
  rintro _ w4 ⟨rfl, h4⟩
  rw [← L0.out.1] at h4
  have H4 := Lib.hid h4
  have a3 := (FL.out h4).2.2.2.1
  clear h4 H0 z2 hm c0 c1 f0 f1 hZ1' hZ2' hgb'
  go_wp2_with fail
  refine (PUT.out _ _ 4 2 t H4.out LN.out.2.1 (by decide) (by decide) (by omega)).mono ?_
  rintro _ w5 ⟨rfl, h5⟩
  rw [← L0.out.2.1] at h5
  have H5 := Lib.hid h5
  have a0 := (FL.out h5).1
  clear h5 H4 a3
  go_wp2_with fail
  refine (PUT.out _ _ 8 8 e H5.out LN.out.2.2.1 (by decide) (by decide) (by omega)).mono ?_
  rintro _ w6 ⟨rfl, h6⟩
  rw [← L0.out.2.2.1] at h6
  have H6 := Lib.hid h6
  have a1 := (FL.out h6).2.1
  clear h6 H5 a0
  go_wp2_with fail
  refine (PUT.out _ _ 16 8 s H6.out LN.out.2.2.2.1 (by decide) (by decide) (by omega)).mono ?_
  rintro _ w7 ⟨rfl, h7⟩
  rw [← L0.out.2.2.2.1] at h7
  have H7 := Lib.hid h7
  have a4 := (FL.out h7).2.2.2.2
  clear h7 H6 a1
  go_wp2_with fail
  refine (PUT.out _ _ 24 4 y H7.out LN.out.2.2.2.2.1 (by decide) (by decide) (by omega)).mono ?_
  rintro _ w8 ⟨rfl, h8⟩
  rw [← L0.out.2.2.2.2.1] at h8
  have H8 := Lib.hid h8
  clear h8 H7 a4
  go_wp2_with fail
  go_loopg [8] pl (fun gg si wr => ∃ (k : Nat), k ≤ pl ∧ gg = pl - k ∧ si = .int .i64 k ∧ Ly w wr gx gb G (splice (ly5 G) 32 (p.take k)))
  case atStart => exact ⟨0, Nat.zero_le _, rfl, rfl, by rw [show splice (ly5 G) 32 (p.take 0) = ly5 G by simp [splice]]; exact H8.out⟩
  case round =>
    obtain ⟨k, hk, hgk, rfl, hp2⟩ := hrel
    have R : Aside (gk = pl - k ∧ Ly w wr gx gb G (splice (ly5 G) 32 (p.take k))) := ⟨hgk, hp2⟩
    by_cases hlt : k < pl
    · have hlt' : (k : Int) < (pl : Int) := by omega
      have tl : (p.take k).length = k := by rw [List.length_take, ← PL.out]; omega
      have sl : (splice (ly5 G) 32 (p.take k)).length = 512 := by rw [length_splice _ _ _ (by rw [tl, LN.out.2.2.2.2.2.1]; omega), LN.out.2.2.2.2.2.1]
      obtain ⟨vb, vo, hav, cv⟩ := HC2.out wr hp2.bl k hlt
      subst hav
      obtain ⟨m, hm⟩ : ∃ m, m = 32 + k := ⟨_, rfl⟩
      have c1 : ∃ u, wr.cell? ⟨gb, m, none⟩ = some u := by
        rw [cell_of_row wr _ _ _ _ _ hp2.bb]
        exact ⟨_, Array.getElem?_eq_getElem (by simp only [List.size_toArray, cells8_length, sl]; omega)⟩
      obtain ⟨u, c1⟩ := c1
      have c2 : wr.frozen? ⟨gb, m, none⟩ = false := frozen_of_row wr _ _ _ _ hp2.bb
      have em : (32 : Int) + (k : Int) = (m : Int) := by omega
      have hm5 : (m : Int) < 512 := by omega
      obtain ⟨bv, hbv⟩ : ∃ bv, bv = c8 (p.getD k 0) := ⟨_, rfl⟩
      rw [← hbv] at cv
      have MM := Lib.hid hm
      have BV := Lib.hid hbv
      have SL := Lib.hid (And.intro tl sl)
      clear hgk hp2 sl tl hm hbv
      go_wp2_with fail
      go_roundg (pl - (k + 1))
      case measure => have := R.out.1; omega
      case rel =>
        refine ⟨k + 1, by omega, rfl, by go_num, R.out.2.upd (kept_set (F := fun k => k = gb) _ _ _ rfl) ?_⟩
        rw [heap_setCell_same _ _ _ _ _ _ R.out.2.bb, BV.out, set_cells8, MM.out]
        have q := splice_snoc (ly5 G) (p.take k) (p.getD k 0) 32 (by rw [SL.out.1, LN.out.2.2.2.2.2.1]; omega)
        rw [SL.out.1] at q
        rw [q]
        congr 5
        have hkp : k < p.length := by rw [← PL.out]; exact hlt
        rw [List.getD_eq_getElem?_getD, List.getElem?_eq_getElem hkp, Option.getD_some, List.take_succ_eq_append_getElem hkp]
    · have ek : k = pl := by omega
      subst ek
      have h9 : Ly w wr gx gb G (ly6 G p) := by
        rw [L0.out.2.2.2.2.2.1]
        have := R.out.2
        rw [List.take_of_length_le (by rw [← PL.out]; omega)] at this
        exact this
      have H9 := Lib.hid h9
      have a0 := (FL.out h9).1
      clear hgk hp2 h9 R H8
      go_wp2_with fail
      refine (PUT.out _ _ 496 8 e H9.out LN.out.2.2.2.2.2.2.1 (by decide) (by decide) (by omega)).mono ?_
      rintro _ w10 ⟨rfl, h10⟩
      have H10 := Lib.hid h10
      have a1 := (FL.out h10).2.1
      clear h10 H9 a0
      go_wp2_with fail
      refine (PUT.out _ _ 504 8 s H10.out (by rw [length_splice _ _ _ (by rw [leB_length, LN.out.2.2.2.2.2.2.1]; omega), LN.out.2.2.2.2.2.2.1]) (by decide) (by decide) (by omega)).mono ?_
      rintro _ w11 ⟨rfl, h11⟩
      rw [← L0.out.2.2.2.2.2.2] at h11
      have H11 := Lib.hid h11
      clear h11 H10 a1
      have L7 : Hid ((lw7 G p).length = 512) := Lib.hid (by rw [E7.out]; exact LN.out.2.2.2.2.2.2.2)
      obtain ⟨C, hC⟩ : ∃ C, C = crc ((lw7 G p).take 28 ++ (lw7 G p).drop 32) := ⟨_, rfl⟩
      have hC32 : (C : Int) < 4294967296 := by have := crc_lt ((lw7 G p).take 28 ++ (lw7 G p).drop 32); omega
      have CC := Lib.hid hC
      have wC : IntKind.i64.wrap (C : Int) = (C : Int) := by rw [IntKind.wrap_i64]; omega
      have SO : Hid (Calls Try.prog 34 #[.slice (some ⟨gb, 0, none⟩) 512 512] w11 fun r w' => r = .returned (.int .u32 (C : Int)) ∧ w' = w11) := Lib.hid (by
        rw [hC]
        have b := H11.out.bytes L7.out 0 512 (by omega)
        rw [List.drop_zero, List.take_of_length_le (by rw [L7.out]; omega)] at b
        exact sumOf_any gb _ w11 b L7.out)
      clear hC
      go_wp2_with fail
      refine SO.out.mono ?_
      rintro _ w12 ⟨rfl, e12⟩
      obtain rfl := e12.symm
      clear SO
      go_wp2_with fail
      refine (PUT.out _ _ 28 4 C H11.out L7.out (by decide) (by decide) (by omega)).mono ?_
      rintro _ w13 ⟨rfl, h13⟩
      have H13 : Hid (Ly w w13 gx gb G (layB G p)) := Lib.hid (by rw [← EQ.out, ← CC.out]; exact h13)
      clear h13 H11
      go_wp2_with fail
      go_ret2
      exact ⟨gb, rfl, own_of H13.out.bb H13.out.lo.2 (layB_length G p (by rw [← PL.out]; exact hp)) (by decide), H13.out.bl⟩
theorem rblk_ok (g : Grp) (hg : Val g) (v : Value) (p : List UInt8) (hsh : (p.length : Int) = shG g) (w : World) (hv : Bytes w v p) :
    Calls Try.prog 8 #[.agg g.arr, v] w fun r w' => ∃ gb, r = .returned (.tuple #[.slice (some ⟨gb, 0, none⟩) 512 512, .int .i64 0]) ∧ Own w.heap.size w' (.slice (some ⟨gb, 0, none⟩) 512 512) (layB g p) ∧ Below w.heap.size w w' := by
  obtain ⟨e, s, i, t, y, rfl⟩ := hg.nat
  exact rblk_nat e s i t y hg v p hsh w hv
end Go.Proofs.Ytfljbipnjfciaab
end S1
