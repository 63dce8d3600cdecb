/-
  WalBack.
-/
import Derived.Test.YtfljbipnjfciaaaBuC
import Derived.Test.YtfljbipnjfciaaaBkA
import Derived.Test.YtfljbipnjfciaaaWaW
namespace Go.Proofs.Ytfljbipnjfciaaa
open Go.RowKit Go.Maps
theorem u_of (a : Int) (h0 : 0 ≤ a) (h1 : a < 4294967296) : ∃ x, a = Sm.u x := Sm.u_of a h0 h1
/-- What came in as a group. -/
def Gd (_w : World) (v : Value) (g : Grp) : Prop := v = .agg g.arr
theorem un_bad {c : List UInt8} (h : ¬ SumOk c) : unR c = (zeroG, [], 2) := by
  unfold unR
  rw [if_neg]
  rintro ⟨_, h2⟩
  exact h (by rw [← h2]; exact lay_ok _ _)
theorem propB_iff (g : Grp) (n : Nat) : propB g n = true ↔ valG g = true ∧ (n : Int) = shG g := by unfold propB; rw [Bool.and_eq_true, decide_eq_true_iff]
theorem blk_bad (g : Grp) (v : Value) (p : List UInt8) (w : World) (hv : Bytes w v p) (h : propB g p.length = false) :
    Calls Try.prog 21 #[.agg g.arr, v] w fun e w' => e = .returned (.tuple #[.slice none 0 0, .int .i64 1]) ∧ Below w.heap.size w w' := by
  cases hva : valG g
  · exact blk_no g v p w hv hva
  · refine blk_len g v p w hv hva fun e => ?_
    rw [(propB_iff g p.length).2 ⟨hva, e⟩] at h
    cases h
set_option maxRecDepth 100000 in
set_option maxHeartbeats 8000000 in
theorem walBack_walk (v0 : Value) (g : Grp) (v1 : Value) (p : List UInt8) (at' : Int) (x : BitVec 32) (v4 : Value) (b : List UInt8) (w : World) (hg : Gd w v0 g) (_hg : True) (hp : Bytes w v1 p) (hpl : p.length ≤ 140737488351232)
    (ha : -9223372036854775808 ≤ at' ∧ at' < 9223372036854775808) (hb : Bytes w v4 b) (hbl : b.length ≤ 140737488351232) :
    Calls Try.prog 5 #[v0, v1, .int .i64 at', .int .u32 (Sm.u x), v4] w fun e w' => e = .returned (.bool true) ∧ Below w.heap.size w w' := by
  have hg' : v0 = .agg g.arr := hg
  subst hg'
  have HP := Lib.hid hp
  have HB := Lib.hid hb
  have HA := Lib.hid ha
  have HPL := Lib.hid hpl
  have HBL := Lib.hid hbl
  obtain ⟨a1, n1, c1, e1⟩ : ∃ a n c, v1 = .slice a n c := by obtain ⟨a, c, e, _⟩ := hp.len; exact ⟨a, _, c, e⟩
  obtain ⟨a4, n4, c4, e4⟩ : ∃ a n c, v4 = .slice a n c := by obtain ⟨a, c, e, _⟩ := hb.len; exact ⟨a, _, c, e⟩
  subst e1 e4
  clear hp hb ha hpl hbl hg _hg
  obtain ⟨X, hX⟩ : ∃ X, X = w.alloc (.cells g.arr 51) := ⟨_, rfl⟩
  obtain ⟨g5, hg5⟩ : ∃ g5, g5 = w.heap.size := ⟨_, rfl⟩
  have BX : Hid (Below w.heap.size w X) := Lib.hid (by rw [hX]; exact (Below.refl _ _).alloc (Nat.le_refl _) _)
  have GX : Hid (X.heap[g5]? = some (.cells g.arr 51 (0, 0))) := Lib.hid (by rw [hg5, hX]; exact heap_alloc_new _ _)
  have GW : Hid (∀ W : World, Below X.heap.size X W → W.heap[g5]? = some (.cells g.arr 51 (0, 0))) := Lib.hid (fun W h => (h.block g5 (lt_of_heap GX.out)).trans GX.out)
  have PW : Hid (∀ W : World, Below X.heap.size X W → Bytes W (.slice a1 n1 c1) p ∧ Bytes W (.slice a4 n4 c4) b ∧ Below w.heap.size w W) := Lib.hid (fun W h => ⟨(HP.out.below BX.out).below h, (HB.out.below BX.out).below h, BX.out.trans (h.mono BX.out.size)⟩)
  have GN := Lib.hid (show Grp.arr g = #[.int .i64 g.ep, .int .i64 g.st, .int .i64 g.ix, .int .i64 g.tot, .int .i64 g.by_] from rfl)
  have KS : Hid (∀ W : World, Below X.heap.size X W → W.cell? ⟨g5, 0, none⟩ = some (.int .i64 g.ep) ∧ W.cell? ⟨g5, 1, none⟩ = some (.int .i64 g.st) ∧ W.cell? ⟨g5, 2, none⟩ = some (.int .i64 g.ix) ∧ W.cell? ⟨g5, 3, none⟩ = some (.int .i64 g.tot) ∧ W.cell? ⟨g5, 4, none⟩ = some (.int .i64 g.by_)) := Lib.hid (fun W h => by
    have := GW.out W h
    refine ⟨?_, ?_, ?_, ?_, ?_⟩ <;> (rw [cell_of_row W g5 _ _ _ _ this]; rfl))
  have OWN : Hid (∀ W : World, Below X.heap.size X W → Calls Try.prog 22 #[.slice a1 n1 c1] W fun e w' => ∃ v', e = .returned v' ∧ Own W.heap.size w' v' p ∧ Below X.heap.size X w') := Lib.hid (fun W h => by
    refine (ownW_any _ p W (PW.out W h).1 (by have := HPL.out; omega)).mono ?_
    rintro e w' ⟨v', h1, h2, h3⟩
    exact ⟨v', h1, h2, h.trans (h3.mono h.size)⟩)
  have hX' := hX.symm
  have hg5' := hg5.symm
  have BD : Hid (∀ W : World, Below X.heap.size X W → Below X.heap.size X W.drew) := Lib.hid (fun W h => h.trans ⟨rfl, rfl, rfl, Nat.le_refl _, fun _ _ => rfl⟩)
  clear hX hg5 BX GX
  go_enter Try.func5, Try.ntmps5
  rw [GN.out] at hX'
  rw [GN.out]
  go_wp2_with fail
  refine (fixed_any X).mono ?_
  rintro _ w1 ⟨rfl, b1⟩
  have B1 := Lib.hid b1
  clear b1 hX' hg5'
  cases hpr : propB g p.length
  · have BL : Hid (∀ (W : World) (v : Value), Bytes W v p → Below X.heap.size X W → Calls Try.prog 21 #[.agg #[.int .i64 g.ep, .int .i64 g.st, .int .i64 g.ix, .int .i64 g.tot, .int .i64 g.by_], v] W fun e w' => e = .returned (.tuple #[.slice none 0 0, .int .i64 1]) ∧ Below X.heap.size X w') := Lib.hid (fun W v hv h => by
      refine (blk_bad g v p W hv hpr).mono ?_
      rintro e w' ⟨h1, h2⟩
      exact ⟨h1, h.trans (h2.mono h.size)⟩)
    have PRP : Hid (∀ (W : World), Below X.heap.size X W → Calls Try.prog 23 #[.agg #[.int .i64 g.ep, .int .i64 g.st, .int .i64 g.ix, .int .i64 g.tot, .int .i64 g.by_], .slice a1 n1 c1] W fun e w' => e = .returned (.bool false) ∧ Below X.heap.size X w') := Lib.hid (fun W h => by
      have := proper_any g _ p W (PW.out W h).1
      rw [hpr] at this
      refine this.mono ?_
      rintro e w' ⟨h1, h2⟩
      exact ⟨h1, h.trans (h2.mono h.size)⟩)
    clear hpr
    go_wp2_with fail
    go_region_held (fun W : World => W.cell? ⟨g5, 0, none⟩ = some (.int .i64 g.ep) ∧ W.cell? ⟨g5, 1, none⟩ = some (.int .i64 g.st) ∧ W.cell? ⟨g5, 2, none⟩ = some (.int .i64 g.ix) ∧ W.cell? ⟨g5, 3, none⟩ = some (.int .i64 g.tot) ∧ W.cell? ⟨g5, 4, none⟩ = some (.int .i64 g.by_)) (first | exact KS.out _ hB4 | exact KS.out _ hB3 | exact KS.out _ (BD.out _ B1.out)) (first | (go_at_call 22; refine (OWN.out _ (BD.out _ B1.out)).mono ?_; rintro _ w3 ⟨u3, rfl, hO3, hB3⟩) | (go_at_call 21; refine (BL.out _ _ hO3.bytes hB3).mono ?_; rintro _ w4 ⟨rfl, hB4⟩))
    have B4 := Lib.hid hB4
    obtain ⟨y0, y1, y2, y3, y4⟩ := KS.out w4 hB4
    clear hB3 hB4 hO3 BL OWN
    go_wp2_with fail
    refine (PRP.out _ B4.out).mono ?_
    rintro _ w5 ⟨rfl, b5⟩
    have B5 := Lib.hid (PW.out w5 b5).2.2
    clear b5
    go_wp2_with fail
    go_ret
    exact ⟨rfl, B5.out⟩
  · obtain ⟨hval, hsh⟩ := (propB_iff g p.length).1 hpr
    have VL := Lib.hid ((val_iff g).1 hval)
    have SHH := Lib.hid hsh
    have BL : Hid (∀ (W : World) (v : Value), Bytes W v p → Below X.heap.size X W → Calls Try.prog 21 #[.agg #[.int .i64 g.ep, .int .i64 g.st, .int .i64 g.ix, .int .i64 g.tot, .int .i64 g.by_], v] W fun e w' => ∃ gb, e = .returned (.tuple #[.slice (some ⟨gb, 0, none⟩) 512 512, .int .i64 0]) ∧ Own W.heap.size w' (.slice (some ⟨gb, 0, none⟩) 512 512) (layB g p) ∧ Below X.heap.size X w') := Lib.hid (fun W v hv h => by
      refine (blk_ok g v p W hv hval hsh).mono ?_
      rintro e w' ⟨gb, h1, h2, h3⟩
      exact ⟨gb, h1, h2, h.trans (h3.mono h.size)⟩)
    have PRP : Hid (∀ (W : World), Below X.heap.size X W → Calls Try.prog 23 #[.agg #[.int .i64 g.ep, .int .i64 g.st, .int .i64 g.ix, .int .i64 g.tot, .int .i64 g.by_], .slice a1 n1 c1] W fun e w' => e = .returned (.bool true) ∧ Below W.heap.size W w') := Lib.hid (fun W h => by
      have := proper_any g _ p W (PW.out W h).1
      rw [hpr] at this
      exact this)
    have LL : Hid ((layB g p).length = 512 ∧ unR (layB g p) = (g, p, 0) ∧ SumOk (layB g p)) := Lib.hid ⟨layB_length g p (by have := VL.out.share; omega), un_lay g VL.out p hsh, lay_ok g p⟩
    obtain ⟨lb, hlb⟩ : ∃ lb, lb = layB g p := ⟨_, rfl⟩
    rw [← hlb] at BL LL
    clear hpr hval hsh hlb
    go_wp2_with fail
    go_region_held (fun W : World => W.cell? ⟨g5, 0, none⟩ = some (.int .i64 g.ep) ∧ W.cell? ⟨g5, 1, none⟩ = some (.int .i64 g.st) ∧ W.cell? ⟨g5, 2, none⟩ = some (.int .i64 g.ix) ∧ W.cell? ⟨g5, 3, none⟩ = some (.int .i64 g.tot) ∧ W.cell? ⟨g5, 4, none⟩ = some (.int .i64 g.by_)) (first | exact KS.out _ hB4 | exact KS.out _ hB3 | exact KS.out _ (BD.out _ B1.out)) (first | (go_at_call 22; refine (OWN.out _ (BD.out _ B1.out)).mono ?_; rintro _ w3 ⟨u3, rfl, hO3, hB3⟩) | (go_at_call 21; refine (BL.out _ _ hO3.bytes hB3).mono ?_; rintro _ w4 ⟨gb, rfl, hO4, hB4⟩))
    have B4 := Lib.hid hB4
    have O4 := Lib.hid hO4.bytes
    obtain ⟨y0, y1, y2, y3, y4⟩ := KS.out w4 hB4
    clear hB3 hB4 hO3 hO4 BL OWN BD
    go_wp2_with fail
    refine (PRP.out _ B4.out).mono ?_
    rintro _ w5 ⟨rfl, b5⟩
    have B5 := Lib.hid (B4.out.trans (b5.mono B4.out.size))
    have O5 := Lib.hid (O4.out.below b5)
    clear b5 PRP O4 y0 y1 y2 y3 y4 B4
    go_wp2_with fail
    refine (ownW_any _ lb w5 O5.out (by rw [LL.out.1]; decide)).mono ?_
    rintro _ w6 ⟨v6, rfl, o6, b6⟩
    have B6 := Lib.hid (B5.out.trans (b6.mono B5.out.size))
    have O6 := Lib.hid (O5.out.below b6)
    have UB := Lib.hid (unblock_any v6 lb w6 o6.bytes LL.out.1)
    rw [LL.out.2.1] at UB
    simp only at UB
    obtain ⟨a6, n6, c6, e6⟩ : ∃ a n c, v6 = .slice a n c := by obtain ⟨a, c, e, _⟩ := o6.bytes.len; exact ⟨a, _, c, e⟩
    subst e6
    clear o6 b6 B5 O5
    go_wp2_with fail
    refine UB.out.mono ?_
    rintro _ w7 ⟨vp, rfl, o7, b7⟩
    have B7 := Lib.hid (B6.out.trans (b7.mono B6.out.size))
    have O7 := Lib.hid (And.intro (O6.out.below b7) o7.bytes)
    obtain ⟨a7, n7, c7, e7⟩ : ∃ a n c, vp = .slice a n c := by obtain ⟨a, c, e, _⟩ := o7.bytes.len; exact ⟨a, _, c, e⟩
    subst e7
    obtain ⟨Y, hY⟩ : ∃ Y, Y = w7.alloc (.cells #[.int .i64 0, .int .i64 0, .int .i64 0, .int .i64 0, .int .i64 0] 51) := ⟨_, rfl⟩
    obtain ⟨Z, hZ⟩ : ∃ Z, Z = Y.setRow w7.heap.size #[.int .i64 g.ep, .int .i64 g.st, .int .i64 g.ix, .int .i64 g.tot, .int .i64 g.by_] := ⟨_, rfl⟩
    have gY : Hid (Y.heap[w7.heap.size]? = some (.cells zeroG.arr 51 (0, 0))) := Lib.hid (by rw [hY]; exact heap_alloc_new _ _)
    have gZ : Hid (Z.heap[w7.heap.size]? = some (.cells g.arr 51 (0, 0))) := Lib.hid (by rw [hZ]; exact setRow_heap _ _ _ _ _ _ gY.out)
    have bZ : Below w7.heap.size w7 Z := by rw [hZ, hY]; exact below_setRow ((Below.refl _ _).alloc (Nat.le_refl _) _) (Nat.le_refl _) _
    have BZ := Lib.hid (B7.out.trans (bZ.mono B7.out.size))
    have OZ := Lib.hid (And.intro (O7.out.1.below bZ) (O7.out.2.below bZ))
    obtain ⟨g14, hg14⟩ : ∃ g14, g14 = w7.heap.size := ⟨_, rfl⟩
    have S14 : Hid (X.heap.size ≤ g14) := Lib.hid (by rw [hg14]; exact B7.out.size)
    rw [← hg14] at gY gZ hZ
    have hg14' := hg14.symm
    have hY' := hY.symm
    have hZ' := hZ.symm
    have SM := Lib.hid (sameW_any _ _ p p Z OZ.out.2 (PW.out Z BZ.out).1)
    rw [decide_eq_true rfl] at SM
    have k0 := (KS.out Z BZ.out).1
    have k1 := (KS.out Z BZ.out).2.1
    have k2 := (KS.out Z BZ.out).2.2.1
    have k3 := (KS.out Z BZ.out).2.2.2.1
    have k4 := (KS.out Z BZ.out).2.2.2.2
    have j0 : Z.cell? ⟨g14, 0, none⟩ = some (.int .i64 g.ep) := by rw [cell_of_row Z g14 _ _ _ _ gZ.out]; rfl
    have j1 : Z.cell? ⟨g14, 1, none⟩ = some (.int .i64 g.st) := by rw [cell_of_row Z g14 _ _ _ _ gZ.out]; rfl
    have j2 : Z.cell? ⟨g14, 2, none⟩ = some (.int .i64 g.ix) := by rw [cell_of_row Z g14 _ _ _ _ gZ.out]; rfl
    have j3 : Z.cell? ⟨g14, 3, none⟩ = some (.int .i64 g.tot) := by rw [cell_of_row Z g14 _ _ _ _ gZ.out]; rfl
    have j4 : Z.cell? ⟨g14, 4, none⟩ = some (.int .i64 g.by_) := by rw [cell_of_row Z g14 _ _ _ _ gZ.out]; rfl
    rw [GN.out]
    clear o7 b7 UB B6 O6 bZ hY hZ hg14
    go_wp2_with (refine wpList_store_row rfl 51 (.tmp 14) (.tmp 48) rfl g14 #[.int .i64 g.ep, .int .i64 g.st, .int .i64 g.ix, .int .i64 g.tot, .int .i64 g.by_] rfl rfl 51 zeroG.arr gY.out size_group rfl (arr_one g) ?_; rw [hZ'])
    refine SM.out.mono ?_
    rintro _ w8 ⟨rfl, e8⟩
    obtain rfl := e8.symm
    clear SM k0 k1 k2 k3 k4 j0 j1 j2 j3 j4
    go_wp2_with fail
    refine (turned_any _ lb at' x Z OZ.out.1 LL.out.1 HA.out).mono ?_
    rintro _ w9 ⟨v9, c, n, rfl, o9, lc, told, b9⟩
    have B9 := Lib.hid b9
    have UC := Lib.hid (unblock_any v9 c w9 o9.bytes lc)
    have TO : Hid (0 < n → unR c = (zeroG, [], 2)) := Lib.hid (fun h => un_bad (told h LL.out.2.2))
    obtain ⟨a9, n9, c9, e9⟩ : ∃ a n c, v9 = .slice a n c := by obtain ⟨a, c, e, _⟩ := o9.bytes.len; exact ⟨a, _, c, e⟩
    subst e9
    obtain ⟨ac, hac⟩ : ∃ ac, ac = (unR c).1.arr := ⟨_, rfl⟩
    obtain ⟨kc, hkc⟩ : ∃ kc, kc = (unR c).2.2 := ⟨_, rfl⟩
    have SZ : Hid (ac.size = 5 ∧ ac.all (·.oneCell') = true) := Lib.hid (by rw [hac]; exact ⟨rfl, arr_one _⟩)
    rw [← hac, ← hkc] at UC
    have KC : Hid (0 < n → kc = 2) := Lib.hid (fun h => by rw [hkc, TO.out h])
    clear o9 b9 told lc hac hkc TO
    go_wp2_with fail
    refine UC.out.mono ?_
    rintro _ w10 ⟨vc, rfl, o10, b10⟩
    have B10 := Lib.hid (B9.out.trans (b10.mono B9.out.size))
    obtain ⟨a10, n10, c10, e10⟩ : ∃ a n c, vc = .slice a n c := by obtain ⟨a, c, e, _⟩ := o10.bytes.len; exact ⟨a, _, c, e⟩
    subst e10
    clear o10 b10 UC B9
    by_cases hn0 : n = 0
    · have f1 : decide ((n : Int) > 0) = false := decide_eq_false (by omega)
      have f1' : decide (0 < n) = false := decide_eq_false (by omega)
      clear KC
      as_aux_lemma =>
        obtain ⟨V, hV⟩ : ∃ V, V = w10.alloc (.cells #[.int .i64 0, .int .i64 0, .int .i64 0, .int .i64 0, .int .i64 0] 51) := ⟨_, rfl⟩
        obtain ⟨U, hU⟩ : ∃ U, U = V.setRow w10.heap.size ac := ⟨_, rfl⟩
        have gV : Hid (V.heap[w10.heap.size]? = some (.cells zeroG.arr 51 (0, 0))) := Lib.hid (by rw [hV]; exact heap_alloc_new _ _)
        have bU : Below w10.heap.size w10 U := by rw [hU, hV]; exact below_setRow ((Below.refl _ _).alloc (Nat.le_refl _) _) (Nat.le_refl _) _
        have BU := Lib.hid (B10.out.trans (bU.mono B10.out.size))
        have hV' := hV.symm
        have hU' := hU.symm
        clear hV hU bU
        go_wp2_with (refine wpList_store_row rfl 51 (.tmp 19) (.tmp 83) rfl w10.heap.size ac rfl rfl 51 zeroG.arr gV.out (size_group.trans (congrArg some SZ.out.1.symm)) SZ.out.1.symm SZ.out.2 ?_; rw [hU'])
        have BUX := Lib.hid (BZ.out.trans (BU.out.mono BZ.out.size))
        refine (ownW_any _ b U (PW.out U BUX.out).2.1 (by have := HBL.out; omega)).mono ?_
        rintro _ w11 ⟨v11, rfl, o11, b11⟩
        have B11 := Lib.hid (BU.out.trans (b11.mono BU.out.size))
        have G11 : Hid (w11.heap[g14]? = some (.cells g.arr 51 (0, 0))) := Lib.hid ((B11.out.block g14 (lt_of_heap gZ.out)).trans gZ.out)
        have O11 := Lib.hid o11
        obtain ⟨a11, n11, c11, e11⟩ : ∃ a n c, v11 = .slice a n c := by obtain ⟨a, c, e, _⟩ := o11.bytes.len; exact ⟨a, _, c, e⟩
        subst e11
        clear o11 b11 BU gV hV' hU'
        by_cases hb5 : b.length = 512
        · by_cases okb : valG (unG b) = true ∧ layB (unG b) (unP b) = b
          · have UN := Lib.hid (unblock_any _ b w11 O11.out.bytes hb5)
            rw [show unR b = (unG b, unP b, 0) by unfold unR; rw [if_pos okb]] at UN
            simp only at UN
            obtain ⟨h, hh⟩ : ∃ h, h = unG b := ⟨_, rfl⟩
            obtain ⟨q, hq⟩ : ∃ q, q = unP b := ⟨_, rfl⟩
            have OKB : Hid (valG h = true ∧ layB h q = b ∧ (q.length : Int) = shG h) := Lib.hid (by
              rw [hh, hq]
              have vs := ((val_iff _).1 okb.1).share
              refine ⟨okb.1, okb.2, ?_⟩
              unfold unP sub
              rw [List.length_take, List.length_drop, hb5]
              omega)
            rw [← hh, ← hq] at UN
            have HN := Lib.hid (show Grp.arr h = #[.int .i64 h.ep, .int .i64 h.st, .int .i64 h.ix, .int .i64 h.tot, .int .i64 h.by_] from rfl)
            clear okb hh hq hb5
            go_wp2_with fail
            refine UN.out.mono ?_
            rintro _ w12 ⟨vq, rfl, o12, b12⟩
            have B12 := Lib.hid (B11.out.trans (b12.mono B11.out.size))
            have G12 : Hid (w12.heap[g14]? = some (.cells g.arr 51 (0, 0))) := Lib.hid ((b12.block g14 (lt_of_heap G11.out)).trans G11.out)
            obtain ⟨T, hT⟩ : ∃ T, T = w12.setRow g14 #[.int .i64 h.ep, .int .i64 h.st, .int .i64 h.ix, .int .i64 h.tot, .int .i64 h.by_] := ⟨_, rfl⟩
            have gT : Hid (T.heap[g14]? = some (.cells h.arr 51 (0, 0))) := Lib.hid (by rw [hT]; exact setRow_heap _ _ _ _ _ _ G12.out)
            have BT : Hid (Below X.heap.size X T) := Lib.hid (by rw [hT]; exact below_setRow (BZ.out.trans (B12.out.mono BZ.out.size)) S14.out _)
            have OT : Hid (Bytes T vq q) := Lib.hid (by
              refine (o12.kept (F := fun k => k = g14) (w' := T) ?_ (fun k hk e => ?_)).bytes
              · rw [hT]; exact ⟨rfl, rfl, rfl, by simp [World.setRow], fun k _ hn => setRow_other _ _ _ _ hn⟩
              · have := (o12.lt k hk).1
                have := lt_of_heap G11.out
                omega)
            obtain ⟨a12, n12, c12, e12⟩ : ∃ a n c, vq = .slice a n c := by obtain ⟨a, c, e, _⟩ := o12.bytes.len; exact ⟨a, _, c, e⟩
            subst e12
            have t0 : T.cell? ⟨g14, 0, none⟩ = some (.int .i64 h.ep) := by rw [cell_of_row T g14 _ _ _ _ gT.out]; rfl
            have t1 : T.cell? ⟨g14, 1, none⟩ = some (.int .i64 h.st) := by rw [cell_of_row T g14 _ _ _ _ gT.out]; rfl
            have t2 : T.cell? ⟨g14, 2, none⟩ = some (.int .i64 h.ix) := by rw [cell_of_row T g14 _ _ _ _ gT.out]; rfl
            have t3 : T.cell? ⟨g14, 3, none⟩ = some (.int .i64 h.tot) := by rw [cell_of_row T g14 _ _ _ _ gT.out]; rfl
            have t4 : T.cell? ⟨g14, 4, none⟩ = some (.int .i64 h.by_) := by rw [cell_of_row T g14 _ _ _ _ gT.out]; rfl
            have hT' := hT.symm
            have BK : Hid (Calls Try.prog 21 #[.agg #[.int .i64 h.ep, .int .i64 h.st, .int .i64 h.ix, .int .i64 h.tot, .int .i64 h.by_], .slice a12 n12 c12] T fun e w' => ∃ gb, e = .returned (.tuple #[.slice (some ⟨gb, 0, none⟩) 512 512, .int .i64 0]) ∧ Own T.heap.size w' (.slice (some ⟨gb, 0, none⟩) 512 512) b ∧ Below T.heap.size T w') := Lib.hid (by
              have := blk_ok h _ q T OT.out OKB.out.1 OKB.out.2.2
              rw [OKB.out.2.1] at this
              exact this)
            rw [HN.out]
            clear o12 b12 UN hT
            go_wp2_with (refine wpList_store_row rfl 51 (.tmp 14) (.tmp 96) rfl g14 #[.int .i64 h.ep, .int .i64 h.st, .int .i64 h.ix, .int .i64 h.tot, .int .i64 h.by_] rfl rfl 51 g.arr G12.out size_group rfl (arr_one h) ?_; rw [hT'])
            refine BK.out.mono ?_
            rintro _ w13 ⟨gz, rfl, o13, b13⟩
            have B13 := Lib.hid (BT.out.trans (b13.mono BT.out.size))
            have SB := Lib.hid (sameW_any _ _ b b w13 o13.bytes (PW.out w13 B13.out).2.1)
            rw [decide_eq_true rfl] at SB
            clear o13 b13 BK
            go_wp2_with fail
            refine SB.out.mono ?_
            rintro _ w14 ⟨rfl, e14⟩
            obtain rfl := e14.symm
            go_wp2_with fail
            go_ret
            exact ⟨rfl, (PW.out w13 B13.out).2.2⟩
          · have UN := Lib.hid (unblock_any _ b w11 O11.out.bytes hb5)
            rw [show unR b = (zeroG, [], 2) by unfold unR; rw [if_neg okb]] at UN
            simp only at UN
            clear okb hb5
            go_wp2_with fail
            refine UN.out.mono ?_
            rintro _ w12 ⟨vq, rfl, o12, b12⟩
            have B12 := Lib.hid (B11.out.trans (b12.mono B11.out.size))
            have G12 : Hid (w12.heap[g14]? = some (.cells g.arr 51 (0, 0))) := Lib.hid ((b12.block g14 (lt_of_heap G11.out)).trans G11.out)
            obtain ⟨T, hT⟩ : ∃ T, T = w12.setRow g14 #[.int .i64 0, .int .i64 0, .int .i64 0, .int .i64 0, .int .i64 0] := ⟨_, rfl⟩
            have gT : Hid (T.heap[g14]? = some (.cells zeroG.arr 51 (0, 0))) := Lib.hid (by rw [hT]; exact setRow_heap _ _ _ _ _ _ G12.out)
            have BT : Hid (Below X.heap.size X T) := Lib.hid (by rw [hT]; exact below_setRow (BZ.out.trans (B12.out.mono BZ.out.size)) S14.out _)
            obtain ⟨a12, c12, e12⟩ : ∃ a c, vq = .slice a 0 c := by obtain ⟨a, c, e, _⟩ := o12.bytes.len; exact ⟨a, c, e⟩
            subst e12
            have t0 : T.cell? ⟨g14, 0, none⟩ = some (.int .i64 0) := by rw [cell_of_row T g14 _ _ _ _ gT.out]; rfl
            have t1 : T.cell? ⟨g14, 1, none⟩ = some (.int .i64 0) := by rw [cell_of_row T g14 _ _ _ _ gT.out]; rfl
            have t2 : T.cell? ⟨g14, 2, none⟩ = some (.int .i64 0) := by rw [cell_of_row T g14 _ _ _ _ gT.out]; rfl
            have t3 : T.cell? ⟨g14, 3, none⟩ = some (.int .i64 0) := by rw [cell_of_row T g14 _ _ _ _ gT.out]; rfl
            have t4 : T.cell? ⟨g14, 4, none⟩ = some (.int .i64 0) := by rw [cell_of_row T g14 _ _ _ _ gT.out]; rfl
            have hT' := hT.symm
            rw [show Grp.arr zeroG = #[.int .i64 0, .int .i64 0, .int .i64 0, .int .i64 0, .int .i64 0] from rfl]
            clear o12 b12 UN hT
            go_wp2_with (refine wpList_store_row rfl 51 (.tmp 14) (.tmp 96) rfl g14 #[.int .i64 0, .int .i64 0, .int .i64 0, .int .i64 0, .int .i64 0] rfl rfl 51 g.arr G12.out size_group rfl (arr_one zeroG) ?_; rw [hT'])
            go_ret
            exact ⟨rfl, (PW.out T BT.out).2.2⟩
        · have UN : Hid (Calls Try.prog 24 #[.slice a11 n11 c11] w11 fun e w' => ∃ vp, e = .returned (.tuple #[.agg zeroG.arr, vp, .int .i64 61]) ∧ Own w11.heap.size w' vp [] ∧ Below w11.heap.size w11 w') := Lib.hid (by
            refine (unblock_short _ b w11 O11.out.bytes hb5).mono ?_
            rintro e w' ⟨h1, h2⟩
            exact ⟨_, h1, World.ownsRow_nil _ _ _ _, h2⟩)
          clear hb5
          go_wp2_with fail
          refine UN.out.mono ?_
          rintro _ w12 ⟨vq, rfl, o12, b12⟩
          have B12 := Lib.hid (B11.out.trans (b12.mono B11.out.size))
          have G12 : Hid (w12.heap[g14]? = some (.cells g.arr 51 (0, 0))) := Lib.hid ((b12.block g14 (lt_of_heap G11.out)).trans G11.out)
          obtain ⟨T, hT⟩ : ∃ T, T = w12.setRow g14 #[.int .i64 0, .int .i64 0, .int .i64 0, .int .i64 0, .int .i64 0] := ⟨_, rfl⟩
          have gT : Hid (T.heap[g14]? = some (.cells zeroG.arr 51 (0, 0))) := Lib.hid (by rw [hT]; exact setRow_heap _ _ _ _ _ _ G12.out)
          have BT : Hid (Below X.heap.size X T) := Lib.hid (by rw [hT]; exact below_setRow (BZ.out.trans (B12.out.mono BZ.out.size)) S14.out _)
          obtain ⟨a12, c12, e12⟩ : ∃ a c, vq = .slice a 0 c := by obtain ⟨a, c, e, _⟩ := o12.bytes.len; exact ⟨a, c, e⟩
          subst e12
          have t0 : T.cell? ⟨g14, 0, none⟩ = some (.int .i64 0) := by rw [cell_of_row T g14 _ _ _ _ gT.out]; rfl
          have t1 : T.cell? ⟨g14, 1, none⟩ = some (.int .i64 0) := by rw [cell_of_row T g14 _ _ _ _ gT.out]; rfl
          have t2 : T.cell? ⟨g14, 2, none⟩ = some (.int .i64 0) := by rw [cell_of_row T g14 _ _ _ _ gT.out]; rfl
          have t3 : T.cell? ⟨g14, 3, none⟩ = some (.int .i64 0) := by rw [cell_of_row T g14 _ _ _ _ gT.out]; rfl
          have t4 : T.cell? ⟨g14, 4, none⟩ = some (.int .i64 0) := by rw [cell_of_row T g14 _ _ _ _ gT.out]; rfl
          have hT' := hT.symm
          rw [show Grp.arr zeroG = #[.int .i64 0, .int .i64 0, .int .i64 0, .int .i64 0, .int .i64 0] from rfl]
          clear o12 b12 UN hT
          go_wp2_with (refine wpList_store_row rfl 51 (.tmp 14) (.tmp 96) rfl g14 #[.int .i64 0, .int .i64 0, .int .i64 0, .int .i64 0, .int .i64 0] rfl rfl 51 g.arr G12.out size_group rfl (arr_one zeroG) ?_; rw [hT'])
          go_ret
          exact ⟨rfl, (PW.out T BT.out).2.2⟩
    · have f1 : decide ((n : Int) > 0) = true := decide_eq_true (by omega)
      have f1' : decide (0 < n) = true := decide_eq_true (by omega)
      have hk2 := KC.out (by omega)
      subst hk2
      clear KC
      as_aux_lemma =>
        obtain ⟨V, hV⟩ : ∃ V, V = w10.alloc (.cells #[.int .i64 0, .int .i64 0, .int .i64 0, .int .i64 0, .int .i64 0] 51) := ⟨_, rfl⟩
        obtain ⟨U, hU⟩ : ∃ U, U = V.setRow w10.heap.size ac := ⟨_, rfl⟩
        have gV : Hid (V.heap[w10.heap.size]? = some (.cells zeroG.arr 51 (0, 0))) := Lib.hid (by rw [hV]; exact heap_alloc_new _ _)
        have bU : Below w10.heap.size w10 U := by rw [hU, hV]; exact below_setRow ((Below.refl _ _).alloc (Nat.le_refl _) _) (Nat.le_refl _) _
        have BU := Lib.hid (B10.out.trans (bU.mono B10.out.size))
        have hV' := hV.symm
        have hU' := hU.symm
        clear hV hU bU
        go_wp2_with (refine wpList_store_row rfl 51 (.tmp 19) (.tmp 83) rfl w10.heap.size ac rfl rfl 51 zeroG.arr gV.out (size_group.trans (congrArg some SZ.out.1.symm)) SZ.out.1.symm SZ.out.2 ?_; rw [hU'])
        have BUX := Lib.hid (BZ.out.trans (BU.out.mono BZ.out.size))
        refine (ownW_any _ b U (PW.out U BUX.out).2.1 (by have := HBL.out; omega)).mono ?_
        rintro _ w11 ⟨v11, rfl, o11, b11⟩
        have B11 := Lib.hid (BU.out.trans (b11.mono BU.out.size))
        have G11 : Hid (w11.heap[g14]? = some (.cells g.arr 51 (0, 0))) := Lib.hid ((B11.out.block g14 (lt_of_heap gZ.out)).trans gZ.out)
        have O11 := Lib.hid o11
        obtain ⟨a11, n11, c11, e11⟩ : ∃ a n c, v11 = .slice a n c := by obtain ⟨a, c, e, _⟩ := o11.bytes.len; exact ⟨a, _, c, e⟩
        subst e11
        clear o11 b11 BU gV hV' hU'
        by_cases hb5 : b.length = 512
        · by_cases okb : valG (unG b) = true ∧ layB (unG b) (unP b) = b
          · have UN := Lib.hid (unblock_any _ b w11 O11.out.bytes hb5)
            rw [show unR b = (unG b, unP b, 0) by unfold unR; rw [if_pos okb]] at UN
            simp only at UN
            obtain ⟨h, hh⟩ : ∃ h, h = unG b := ⟨_, rfl⟩
            obtain ⟨q, hq⟩ : ∃ q, q = unP b := ⟨_, rfl⟩
            have OKB : Hid (valG h = true ∧ layB h q = b ∧ (q.length : Int) = shG h) := Lib.hid (by
              rw [hh, hq]
              have vs := ((val_iff _).1 okb.1).share
              refine ⟨okb.1, okb.2, ?_⟩
              unfold unP sub
              rw [List.length_take, List.length_drop, hb5]
              omega)
            rw [← hh, ← hq] at UN
            have HN := Lib.hid (show Grp.arr h = #[.int .i64 h.ep, .int .i64 h.st, .int .i64 h.ix, .int .i64 h.tot, .int .i64 h.by_] from rfl)
            clear okb hh hq hb5
            go_wp2_with fail
            refine UN.out.mono ?_
            rintro _ w12 ⟨vq, rfl, o12, b12⟩
            have B12 := Lib.hid (B11.out.trans (b12.mono B11.out.size))
            have G12 : Hid (w12.heap[g14]? = some (.cells g.arr 51 (0, 0))) := Lib.hid ((b12.block g14 (lt_of_heap G11.out)).trans G11.out)
            obtain ⟨T, hT⟩ : ∃ T, T = w12.setRow g14 #[.int .i64 h.ep, .int .i64 h.st, .int .i64 h.ix, .int .i64 h.tot, .int .i64 h.by_] := ⟨_, rfl⟩
            have gT : Hid (T.heap[g14]? = some (.cells h.arr 51 (0, 0))) := Lib.hid (by rw [hT]; exact setRow_heap _ _ _ _ _ _ G12.out)
            have BT : Hid (Below X.heap.size X T) := Lib.hid (by rw [hT]; exact below_setRow (BZ.out.trans (B12.out.mono BZ.out.size)) S14.out _)
            have OT : Hid (Bytes T vq q) := Lib.hid (by
              refine (o12.kept (F := fun k => k = g14) (w' := T) ?_ (fun k hk e => ?_)).bytes
              · rw [hT]; exact ⟨rfl, rfl, rfl, by simp [World.setRow], fun k _ hn => setRow_other _ _ _ _ hn⟩
              · have := (o12.lt k hk).1
                have := lt_of_heap G11.out
                omega)
            obtain ⟨a12, n12, c12, e12⟩ : ∃ a n c, vq = .slice a n c := by obtain ⟨a, c, e, _⟩ := o12.bytes.len; exact ⟨a, _, c, e⟩
            subst e12
            have t0 : T.cell? ⟨g14, 0, none⟩ = some (.int .i64 h.ep) := by rw [cell_of_row T g14 _ _ _ _ gT.out]; rfl
            have t1 : T.cell? ⟨g14, 1, none⟩ = some (.int .i64 h.st) := by rw [cell_of_row T g14 _ _ _ _ gT.out]; rfl
            have t2 : T.cell? ⟨g14, 2, none⟩ = some (.int .i64 h.ix) := by rw [cell_of_row T g14 _ _ _ _ gT.out]; rfl
            have t3 : T.cell? ⟨g14, 3, none⟩ = some (.int .i64 h.tot) := by rw [cell_of_row T g14 _ _ _ _ gT.out]; rfl
            have t4 : T.cell? ⟨g14, 4, none⟩ = some (.int .i64 h.by_) := by rw [cell_of_row T g14 _ _ _ _ gT.out]; rfl
            have hT' := hT.symm
            have BK : Hid (Calls Try.prog 21 #[.agg #[.int .i64 h.ep, .int .i64 h.st, .int .i64 h.ix, .int .i64 h.tot, .int .i64 h.by_], .slice a12 n12 c12] T fun e w' => ∃ gb, e = .returned (.tuple #[.slice (some ⟨gb, 0, none⟩) 512 512, .int .i64 0]) ∧ Own T.heap.size w' (.slice (some ⟨gb, 0, none⟩) 512 512) b ∧ Below T.heap.size T w') := Lib.hid (by
              have := blk_ok h _ q T OT.out OKB.out.1 OKB.out.2.2
              rw [OKB.out.2.1] at this
              exact this)
            rw [HN.out]
            clear o12 b12 UN hT
            go_wp2_with (refine wpList_store_row rfl 51 (.tmp 14) (.tmp 96) rfl g14 #[.int .i64 h.ep, .int .i64 h.st, .int .i64 h.ix, .int .i64 h.tot, .int .i64 h.by_] rfl rfl 51 g.arr G12.out size_group rfl (arr_one h) ?_; rw [hT'])
            refine BK.out.mono ?_
            rintro _ w13 ⟨gz, rfl, o13, b13⟩
            have B13 := Lib.hid (BT.out.trans (b13.mono BT.out.size))
            have SB := Lib.hid (sameW_any _ _ b b w13 o13.bytes (PW.out w13 B13.out).2.1)
            rw [decide_eq_true rfl] at SB
            clear o13 b13 BK
            go_wp2_with fail
            refine SB.out.mono ?_
            rintro _ w14 ⟨rfl, e14⟩
            obtain rfl := e14.symm
            go_wp2_with fail
            go_ret
            exact ⟨rfl, (PW.out w13 B13.out).2.2⟩
          · have UN := Lib.hid (unblock_any _ b w11 O11.out.bytes hb5)
            rw [show unR b = (zeroG, [], 2) by unfold unR; rw [if_neg okb]] at UN
            simp only at UN
            clear okb hb5
            go_wp2_with fail
            refine UN.out.mono ?_
            rintro _ w12 ⟨vq, rfl, o12, b12⟩
            have B12 := Lib.hid (B11.out.trans (b12.mono B11.out.size))
            have G12 : Hid (w12.heap[g14]? = some (.cells g.arr 51 (0, 0))) := Lib.hid ((b12.block g14 (lt_of_heap G11.out)).trans G11.out)
            obtain ⟨T, hT⟩ : ∃ T, T = w12.setRow g14 #[.int .i64 0, .int .i64 0, .int .i64 0, .int .i64 0, .int .i64 0] := ⟨_, rfl⟩
            have gT : Hid (T.heap[g14]? = some (.cells zeroG.arr 51 (0, 0))) := Lib.hid (by rw [hT]; exact setRow_heap _ _ _ _ _ _ G12.out)
            have BT : Hid (Below X.heap.size X T) := Lib.hid (by rw [hT]; exact below_setRow (BZ.out.trans (B12.out.mono BZ.out.size)) S14.out _)
            obtain ⟨a12, c12, e12⟩ : ∃ a c, vq = .slice a 0 c := by obtain ⟨a, c, e, _⟩ := o12.bytes.len; exact ⟨a, c, e⟩
            subst e12
            have t0 : T.cell? ⟨g14, 0, none⟩ = some (.int .i64 0) := by rw [cell_of_row T g14 _ _ _ _ gT.out]; rfl
            have t1 : T.cell? ⟨g14, 1, none⟩ = some (.int .i64 0) := by rw [cell_of_row T g14 _ _ _ _ gT.out]; rfl
            have t2 : T.cell? ⟨g14, 2, none⟩ = some (.int .i64 0) := by rw [cell_of_row T g14 _ _ _ _ gT.out]; rfl
            have t3 : T.cell? ⟨g14, 3, none⟩ = some (.int .i64 0) := by rw [cell_of_row T g14 _ _ _ _ gT.out]; rfl
            have t4 : T.cell? ⟨g14, 4, none⟩ = some (.int .i64 0) := by rw [cell_of_row T g14 _ _ _ _ gT.out]; rfl
            have hT' := hT.symm
            rw [show Grp.arr zeroG = #[.int .i64 0, .int .i64 0, .int .i64 0, .int .i64 0, .int .i64 0] from rfl]
            clear o12 b12 UN hT
            go_wp2_with (refine wpList_store_row rfl 51 (.tmp 14) (.tmp 96) rfl g14 #[.int .i64 0, .int .i64 0, .int .i64 0, .int .i64 0, .int .i64 0] rfl rfl 51 g.arr G12.out size_group rfl (arr_one zeroG) ?_; rw [hT'])
            go_ret
            exact ⟨rfl, (PW.out T BT.out).2.2⟩
        · have UN : Hid (Calls Try.prog 24 #[.slice a11 n11 c11] w11 fun e w' => ∃ vp, e = .returned (.tuple #[.agg zeroG.arr, vp, .int .i64 61]) ∧ Own w11.heap.size w' vp [] ∧ Below w11.heap.size w11 w') := Lib.hid (by
            refine (unblock_short _ b w11 O11.out.bytes hb5).mono ?_
            rintro e w' ⟨h1, h2⟩
            exact ⟨_, h1, World.ownsRow_nil _ _ _ _, h2⟩)
          clear hb5
          go_wp2_with fail
          refine UN.out.mono ?_
          rintro _ w12 ⟨vq, rfl, o12, b12⟩
          have B12 := Lib.hid (B11.out.trans (b12.mono B11.out.size))
          have G12 : Hid (w12.heap[g14]? = some (.cells g.arr 51 (0, 0))) := Lib.hid ((b12.block g14 (lt_of_heap G11.out)).trans G11.out)
          obtain ⟨T, hT⟩ : ∃ T, T = w12.setRow g14 #[.int .i64 0, .int .i64 0, .int .i64 0, .int .i64 0, .int .i64 0] := ⟨_, rfl⟩
          have gT : Hid (T.heap[g14]? = some (.cells zeroG.arr 51 (0, 0))) := Lib.hid (by rw [hT]; exact setRow_heap _ _ _ _ _ _ G12.out)
          have BT : Hid (Below X.heap.size X T) := Lib.hid (by rw [hT]; exact below_setRow (BZ.out.trans (B12.out.mono BZ.out.size)) S14.out _)
          obtain ⟨a12, c12, e12⟩ : ∃ a c, vq = .slice a 0 c := by obtain ⟨a, c, e, _⟩ := o12.bytes.len; exact ⟨a, c, e⟩
          subst e12
          have t0 : T.cell? ⟨g14, 0, none⟩ = some (.int .i64 0) := by rw [cell_of_row T g14 _ _ _ _ gT.out]; rfl
          have t1 : T.cell? ⟨g14, 1, none⟩ = some (.int .i64 0) := by rw [cell_of_row T g14 _ _ _ _ gT.out]; rfl
          have t2 : T.cell? ⟨g14, 2, none⟩ = some (.int .i64 0) := by rw [cell_of_row T g14 _ _ _ _ gT.out]; rfl
          have t3 : T.cell? ⟨g14, 3, none⟩ = some (.int .i64 0) := by rw [cell_of_row T g14 _ _ _ _ gT.out]; rfl
          have t4 : T.cell? ⟨g14, 4, none⟩ = some (.int .i64 0) := by rw [cell_of_row T g14 _ _ _ _ gT.out]; rfl
          have hT' := hT.symm
          rw [show Grp.arr zeroG = #[.int .i64 0, .int .i64 0, .int .i64 0, .int .i64 0, .int .i64 0] from rfl]
          clear o12 b12 UN hT
          go_wp2_with (refine wpList_store_row rfl 51 (.tmp 14) (.tmp 96) rfl g14 #[.int .i64 0, .int .i64 0, .int .i64 0, .int .i64 0, .int .i64 0] rfl rfl 51 g.arr G12.out size_group rfl (arr_one zeroG) ?_; rw [hT'])
          go_ret
          exact ⟨rfl, (PW.out T BT.out).2.2⟩
end Go.Proofs.Ytfljbipnjfciaaa
