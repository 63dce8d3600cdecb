/-
  SpacePlays.
-/
import Derived.Test.YtfdhccanacpanaaPyB
namespace Go.Proofs.Ytfdhccanacpanaa
open Go.RowKit
theorem below_drew (w : World) : Below w.heap.size w w.drew := ⟨rfl, rfl, rfl, Nat.le_refl _, fun _ _ => rfl⟩
theorem op_one (t : Bool) (k b : Int) : (#[Value.bool t, .int .i64 k, .int .i64 b]).all (·.oneCell') = true := by rw [← Array.all_toList]; rfl
set_option maxRecDepth 100000 in
set_option maxHeartbeats 8000000 in
theorem spacePlays_walk (va : Value) (za : SzD) (vb : Value) (zb : SzD) (v : Value) (t : List OpS) (w : World) (ha : Sz w va za) (hla : za.t.length ≤ 17592186044416) (hb : Sz w vb zb) (hlb : zb.t.length ≤ 17592186044416) (h1 : OpsS w v t) (_hl : t.length ≤ 140737488355328) :
    Calls Try.prog 7 #[va, vb, v] w fun e w' => e = .returned (.bool true) ∧ Below w.heap.size w w' := by
  obtain ⟨rfl, ia, ba⟩ := ha
  obtain ⟨rfl, ib, bb⟩ := hb
  obtain ⟨an, am, au, at_⟩ := za
  obtain ⟨bn, bm, bu, bt⟩ := zb
  simp only [SzD.cells] at *
  have H1 := Lib.hid h1
  obtain ⟨av1, cap1, rfl, hc1, hm1⟩ := h1.len
  obtain ⟨N1, hN1⟩ : ∃ N1, N1 = t.length := ⟨_, rfl⟩
  rw [← hN1] at hc1 H1 ⊢
  have NN1 := Lib.hid hN1
  obtain ⟨aa, na, ca, hau⟩ : ∃ a n c, au = .slice a n c := by obtain ⟨a, c, e, _⟩ := ia; exact ⟨a, _, c, e⟩
  obtain ⟨ab, nb, cb, hbu⟩ : ∃ a n c, bu = .slice a n c := by obtain ⟨a, c, e, _⟩ := ib; exact ⟨a, _, c, e⟩
  subst hau hbu
  obtain ⟨X1, hX1⟩ : ∃ X1, X1 = w.alloc (.cells #[.int .i64 an, .int .i64 am, .slice aa na ca] 47) := ⟨_, rfl⟩
  obtain ⟨X2, hX2⟩ : ∃ X2, X2 = X1.alloc (.cells #[.int .i64 bn, .int .i64 bm, .slice ab nb cb] 47) := ⟨_, rfl⟩
  obtain ⟨g1, hg1⟩ : ∃ g1, g1 = w.heap.size := ⟨_, rfl⟩
  obtain ⟨g2, hg2⟩ : ∃ g2, g2 = X1.heap.size := ⟨_, rfl⟩
  have bX1 : Below w.heap.size w X1 := by rw [hX1]; exact (Below.refl _ _).alloc (Nat.le_refl _) _
  have bX2 : Below X1.heap.size X1 X2 := by rw [hX2]; exact (Below.refl _ _).alloc (Nat.le_refl _) _
  have BX : Hid (Below w.heap.size w X2) := Lib.hid (bX1.trans (bX2.mono bX1.size))
  have G1 : Hid (X2.heap[g1]? = some (.cells #[.int .i64 an, .int .i64 am, .slice aa na ca] 47 (0, 0))) := Lib.hid (by
    rw [bX2.block g1 (by rw [hg1, hX1]; simp), hg1, hX1]; exact heap_alloc_new _ _)
  have G2 : Hid (X2.heap[g2]? = some (.cells #[.int .i64 bn, .int .i64 bm, .slice ab nb cb] 47 (0, 0))) := Lib.hid (by
    rw [hg2, hX2]; exact heap_alloc_new _ _)
  have KA : Hid (∀ W : World, Below X2.heap.size X2 W → W.cell? ⟨g1, 0, none⟩ = some (.int .i64 an) ∧ W.cell? ⟨g1, 1, none⟩ = some (.int .i64 am) ∧ W.cell? ⟨g1, 2, none⟩ = some (.slice aa na ca)) := Lib.hid (fun W h => by
    have := (h.block g1 (lt_of_heap G1.out)).trans G1.out
    refine ⟨?_, ?_, ?_⟩ <;> (rw [cell_of_row W g1 _ _ _ _ this]; rfl))
  have KB : Hid (∀ W : World, Below X2.heap.size X2 W → W.cell? ⟨g2, 0, none⟩ = some (.int .i64 bn) ∧ W.cell? ⟨g2, 1, none⟩ = some (.int .i64 bm) ∧ W.cell? ⟨g2, 2, none⟩ = some (.slice ab nb cb)) := Lib.hid (fun W h => by
    have := (h.block g2 (lt_of_heap G2.out)).trans G2.out
    refine ⟨?_, ?_, ?_⟩ <;> (rw [cell_of_row W g2 _ _ _ _ this]; rfl))
  have IA : Hid (∀ W : World, Below X2.heap.size X2 W → Ints W (.slice aa na ca) at_) := Lib.hid (fun W h => (ia.below BX.out).below h)
  have IB : Hid (∀ W : World, Below X2.heap.size X2 W → Ints W (.slice ab nb cb) bt) := Lib.hid (fun W h => (ib.below BX.out).below h)
  have BA := Lib.hid ba
  have BB := Lib.hid bb
  have LA := Lib.hid hla
  have LB := Lib.hid hlb
  have hX1' := hX1.symm
  have hX2' := hX2.symm
  have hg1' := hg1.symm
  have hg2' := hg2.symm
  clear h1 hN1 _hl ia ib ba bb hla hlb hX1 hX2 hg1 hg2 bX1 bX2
  go_enter Try.func7, Try.ntmps7
  by_cases okA : NewOk an am at_
  · by_cases okB : NewOk bn bm bt
    · as_aux_lemma =>
      have BW0 : Hid (Below X2.heap.size X2 X2) := Lib.hid (Below.refl _ _)
      have NA : Hid (∀ (W : World) (u : Value), Below X2.heap.size X2 W → Ints W u at_ → Calls Try.prog 11 #[.int .i64 an, .int .i64 am, u] W fun r w' => ∃ d s, r = .returned (.tuple #[.pointer (some ⟨d, 0, none⟩), .int .i64 0]) ∧ Sp W.heap.size w' d s am.toNat (mkS am.toNat (an - am).toNat at_) ∧ Below W.heap.size W w') := Lib.hid (fun W u hW hu => (new_all _ _ u _ W hu BA.out).mono fun r w' ⟨q1, _, q3⟩ => by
        obtain ⟨d, s, r1, r2⟩ := q1 okA
        exact ⟨d, s, r1, r2, q3⟩)
      have RA : Hid (∀ (W : World), Below X2.heap.size X2 W → Calls Try.prog 22 #[.int .i64 an, .int .i64 am, .slice aa na ca] W fun r w' => ∃ d vw vn, r = .returned (.tuple #[.pointer (some ⟨d, 0, none⟩), .int .i64 0]) ∧ Rs W.heap.size w' d am.toNat vw vn (mkS am.toNat (an - am).toNat at_) ∧ Below W.heap.size W w') := Lib.hid (fun W hW => (rnew_all _ _ _ _ W (IA.out W hW) BA.out).mono fun r w' ⟨q1, _, q3⟩ => by
        obtain ⟨d, vw, vn, r1, r2⟩ := q1 okA
        exact ⟨d, vw, vn, r1, r2, q3⟩)
      have KDA := Lib.hid (KA.out X2.drew (BW0.out.trans ((below_drew _).mono BW0.out.size)))
      have IDA := Lib.hid (IA.out X2.drew (BW0.out.trans ((below_drew _).mono BW0.out.size)))
      have TRA : Hid (∀ W : World, Below X2.drew.heap.size X2.drew W → Below X2.heap.size X2 W) := Lib.hid (fun W h => (BW0.out.trans ((below_drew _).mono BW0.out.size)).trans (h.mono (BW0.out.trans ((below_drew _).mono BW0.out.size)).size))
      go_wp2_with fail
      clear hX1' hX2' hg1' hg2'
      go_region_held_law (fun W : World => W.cell? ⟨g1, 0, none⟩ = some (.int .i64 an) ∧ W.cell? ⟨g1, 1, none⟩ = some (.int .i64 am) ∧ W.cell? ⟨g1, 2, none⟩ = some (.slice aa na ca)) (first | exact KDA.out | exact KA.out _ ((TRA.out _ hA1.2).trans (hB2.mono (TRA.out _ hA1.2).size)) | exact KA.out _ (TRA.out _ hA1.2)) (first | (refine step_app_nil (by rfl) (.const (.slice none 0 0)) (.tmp 23) (by rfl) (by rfl) (by rfl) IDA.out LA.out 24 (by rfl) ?_; intro aq1 nq1 cq1 w1 hA1) | (go_at_call 11; refine (NA.out _ _ (TRA.out _ hA1.2) hA1.1.ints).mono ?_; rintro _ w2 ⟨d1, s1, rfl, hS1, hB2⟩))
      have BW2 := Lib.hid ((TRA.out _ hA1.2).trans (hB2.mono (TRA.out _ hA1.2).size))
      have SS1 : Hid (Sp w.heap.size w2 d1 s1 am.toNat (mkS am.toNat (an - am).toNat at_) ∧ X2.heap.size ≤ s1) := Lib.hid ⟨hS1.mono (Nat.le_trans BX.out.size (TRA.out _ hA1.2).size), Nat.le_trans hA1.2.size hS1.b2⟩
      have BL1 := Lib.hid (((below_drew X2).trans hA1.2).trans (hB2.mono hA1.2.size))
      have q0 := (KA.out w2 BW2.out).1
      have q1 := (KA.out w2 BW2.out).2.1
      have q2 := (KA.out w2 BW2.out).2.2
      clear hA1 hB2 hS1 KDA IDA TRA NA
      go_wp2_with fail
      refine (RA.out _ BW2.out).mono ?_
      rintro _ w3 ⟨e1, vw1, vn1, rfl, hR1, hB3⟩
      have BW3 := Lib.hid (BW2.out.trans (hB3.mono BW2.out.size))
      have PP1 : Hid (Pr w.heap.size w3 d1 s1 e1 am.toNat (mkS am.toNat (an - am).toNat at_) ∧ X2.heap.size ≤ s1 ∧ X2.heap.size ≤ e1) := Lib.hid ⟨⟨SS1.out.1.below hB3, _, _, hR1.mono (Nat.le_trans BX.out.size BW2.out.size)⟩, SS1.out.2, Nat.le_trans BL1.out.size hR1.b1⟩
      have BLT1 := Lib.hid (BL1.out.trans (hB3.mono BL1.out.size))
      clear hB3 hR1 SS1 q0 q1 q2 RA
      have NB : Hid (∀ (W : World) (u : Value), Below X2.heap.size X2 W → Ints W u bt → Calls Try.prog 11 #[.int .i64 bn, .int .i64 bm, u] W fun r w' => ∃ d s, r = .returned (.tuple #[.pointer (some ⟨d, 0, none⟩), .int .i64 0]) ∧ Sp W.heap.size w' d s bm.toNat (mkS bm.toNat (bn - bm).toNat bt) ∧ Below W.heap.size W w') := Lib.hid (fun W u hW hu => (new_all _ _ u _ W hu BB.out).mono fun r w' ⟨q1, _, q3⟩ => by
        obtain ⟨d, s, r1, r2⟩ := q1 okB
        exact ⟨d, s, r1, r2, q3⟩)
      have RB : Hid (∀ (W : World), Below X2.heap.size X2 W → Calls Try.prog 22 #[.int .i64 bn, .int .i64 bm, .slice ab nb cb] W fun r w' => ∃ d vw vn, r = .returned (.tuple #[.pointer (some ⟨d, 0, none⟩), .int .i64 0]) ∧ Rs W.heap.size w' d bm.toNat vw vn (mkS bm.toNat (bn - bm).toNat bt) ∧ Below W.heap.size W w') := Lib.hid (fun W hW => (rnew_all _ _ _ _ W (IB.out W hW) BB.out).mono fun r w' ⟨q1, _, q3⟩ => by
        obtain ⟨d, vw, vn, r1, r2⟩ := q1 okB
        exact ⟨d, vw, vn, r1, r2, q3⟩)
      have KDB := Lib.hid (KB.out w3.drew (BW3.out.trans ((below_drew _).mono BW3.out.size)))
      have IDB := Lib.hid (IB.out w3.drew (BW3.out.trans ((below_drew _).mono BW3.out.size)))
      have TRB : Hid (∀ W : World, Below w3.drew.heap.size w3.drew W → Below X2.heap.size X2 W) := Lib.hid (fun W h => (BW3.out.trans ((below_drew _).mono BW3.out.size)).trans (h.mono (BW3.out.trans ((below_drew _).mono BW3.out.size)).size))
      go_wp2_with fail
      go_region_held_law (fun W : World => W.cell? ⟨g2, 0, none⟩ = some (.int .i64 bn) ∧ W.cell? ⟨g2, 1, none⟩ = some (.int .i64 bm) ∧ W.cell? ⟨g2, 2, none⟩ = some (.slice ab nb cb)) (first | exact KDB.out | exact KB.out _ ((TRB.out _ hA4.2).trans (hB5.mono (TRB.out _ hA4.2).size)) | exact KB.out _ (TRB.out _ hA4.2)) (first | (refine step_app_nil (by rfl) (.const (.slice none 0 0)) (.tmp 44) (by rfl) (by rfl) (by rfl) IDB.out LB.out 45 (by rfl) ?_; intro aq2 nq2 cq2 w4 hA4) | (go_at_call 11; refine (NB.out _ _ (TRB.out _ hA4.2) hA4.1.ints).mono ?_; rintro _ w5 ⟨d2, s2, rfl, hS2, hB5⟩))
      have BW5 := Lib.hid ((TRB.out _ hA4.2).trans (hB5.mono (TRB.out _ hA4.2).size))
      have SS2 : Hid (Sp w.heap.size w5 d2 s2 bm.toNat (mkS bm.toNat (bn - bm).toNat bt) ∧ w3.heap.size ≤ s2) := Lib.hid ⟨hS2.mono (Nat.le_trans BX.out.size (TRB.out _ hA4.2).size), Nat.le_trans hA4.2.size hS2.b2⟩
      have BL2 := Lib.hid (((below_drew w3).trans hA4.2).trans (hB5.mono hA4.2.size))
      have q0 := (KB.out w5 BW5.out).1
      have q1 := (KB.out w5 BW5.out).2.1
      have q2 := (KB.out w5 BW5.out).2.2
      clear hA4 hB5 hS2 KDB IDB TRB NB
      go_wp2_with fail
      refine (RB.out _ BW5.out).mono ?_
      rintro _ w6 ⟨e2, vw2, vn2, rfl, hR2, hB6⟩
      have BW6 := Lib.hid (BW5.out.trans (hB6.mono BW5.out.size))
      have PP2 : Hid (Pr w.heap.size w6 d2 s2 e2 bm.toNat (mkS bm.toNat (bn - bm).toNat bt) ∧ w3.heap.size ≤ s2 ∧ w3.heap.size ≤ e2) := Lib.hid ⟨⟨SS2.out.1.below hB6, _, _, hR2.mono (Nat.le_trans BX.out.size BW5.out.size)⟩, SS2.out.2, Nat.le_trans BL2.out.size hR2.b1⟩
      have BLT2 := Lib.hid (BL2.out.trans (hB6.mono BL2.out.size))
      clear hB6 hR2 SS2 q0 q1 q2 RB
      have PY : Hid (Pr w.heap.size w6 d1 s1 e1 am.toNat (mkS am.toNat (an - am).toNat at_) ∧ Pr w.heap.size w6 d2 s2 e2 bm.toNat (mkS bm.toNat (bn - bm).toNat bt) ∧ s2 ≠ s1 ∧ e2 ≠ e1 ∧ Below w.heap.size w w6) := Lib.hid (by
        have l1 := lt_of_heap PP1.out.1.sp.sts
        obtain ⟨vw, vn, r⟩ := PP1.out.1.rs
        have l2 := lt_of_heap r.self
        have h2 := PP2.out.2.1
        have h3 := PP2.out.2.2
        exact ⟨PP1.out.1.below BLT2.out, PP2.out.1, by omega, by omega, BX.out.trans (BW6.out.mono BX.out.size)⟩)
      clear PP1 PP2 BL1 BL2 BLT1 BLT2
      go_wp2_with fail
      go_loopg [15] N1 (fun q si wr => ∃ (k : Nat) (l1 l2 : List UInt8), k ≤ N1 ∧ q = N1 - k ∧ si = .int .i64 k ∧ Pr w.heap.size wr d1 s1 e1 am.toNat l1 ∧ Pr w.heap.size wr d2 s2 e2 bm.toNat l2 ∧ s2 ≠ s1 ∧ e2 ≠ e1 ∧ Below w.heap.size w wr)
      case atStart => exact ⟨0, _, _, Nat.zero_le _, rfl, rfl, PY.out⟩
      case round =>
        obtain ⟨k, l1, l2, hk, hq, rfl, hrest⟩ := hrel
        have P := Lib.hid hrest
        have G := Lib.hid hq
        clear hrest hq PY
        by_cases hlt : k < N1
        · have hlt1 : (k : Int) < (N1 : Int) := by omega
          obtain ⟨x, hx⟩ : ∃ x, t[k]? = some x := ⟨_, List.getElem?_eq_getElem (by rw [← NN1.out]; exact hlt)⟩
          have HB := Lib.hid (H1.out.1 x (List.mem_of_getElem? hx))
          obtain ⟨b, off, cp, e1', _, _, r1⟩ := (H1.out.below P.out.2.2.2.2).at k x hx
          simp only [Value.slice.injEq] at e1'
          obtain ⟨rfl, -, rfl⟩ := e1'
          have R1 := Lib.hid r1
          clear r1 hx
          obtain ⟨two, kind, block⟩ := x
          obtain ⟨Y, hY⟩ : ∃ Y, Y = wr.alloc (.cells #[.bool false, .int .i64 0, .int .i64 0] 38) := ⟨_, rfl⟩
          obtain ⟨Z, hZ⟩ : ∃ Z, Z = Y.setRow wr.heap.size #[.bool two, .int .i64 kind, .int .i64 block] := ⟨_, rfl⟩
          have gY : Hid (Y.heap[wr.heap.size]? = some (.cells #[.bool false, .int .i64 0, .int .i64 0] 38 (0, 0))) := Lib.hid (by rw [hY]; exact heap_alloc_new _ _)
          have gZ : Hid (Z.heap[wr.heap.size]? = some (.cells #[.bool two, .int .i64 kind, .int .i64 block] 38 (0, 0))) := Lib.hid (by rw [hZ]; exact setRow_heap _ _ _ _ _ _ gY.out)
          have bZ : Below wr.heap.size wr Z := by rw [hZ, hY]; exact below_setRow ((Below.refl _ _).alloc (Nat.le_refl _) _) (Nat.le_refl _) _
          have PZ : Hid (Pr w.heap.size Z d1 s1 e1 am.toNat l1 ∧ Pr w.heap.size Z d2 s2 e2 bm.toNat l2 ∧ s2 ≠ s1 ∧ e2 ≠ e1 ∧ Below w.heap.size w Z) := Lib.hid ⟨P.out.1.below bZ, P.out.2.1.below bZ, P.out.2.2.1, P.out.2.2.2.1, P.out.2.2.2.2.trans (bZ.mono P.out.2.2.2.2.size)⟩
          have ZC : Hid (∀ W : World, W.heap[wr.heap.size]? = some (.cells #[.bool two, .int .i64 kind, .int .i64 block] 38 (0, 0)) → W.cell? ⟨wr.heap.size, 0, none⟩ = some (.bool two) ∧ W.cell? ⟨wr.heap.size, 1, none⟩ = some (.int .i64 kind) ∧ W.cell? ⟨wr.heap.size, 2, none⟩ = some (.int .i64 block)) := Lib.hid (fun W h => by
            refine ⟨?_, ?_, ?_⟩ <;> (rw [cell_of_row W wr.heap.size _ _ _ _ h]; rfl))
          have z0 := (ZC.out Z gZ.out).1
          have z1 := (ZC.out Z gZ.out).2.1
          have z2 := (ZC.out Z gZ.out).2.2
          have hY' := hY.symm
          have hZ' := hZ.symm
          have GZK : Hid (∀ (W : World) (s e : Nat), (∃ d f l, Pr w.heap.size Z d s e f l) → Kept (fun k => k = s ∨ k = e) Z W → W.heap[wr.heap.size]? = some (.cells #[.bool two, .int .i64 kind, .int .i64 block] 38 (0, 0))) := Lib.hid (fun W s e h K => by
            obtain ⟨d, f, l, hp⟩ := h
            obtain ⟨vw, vn, r⟩ := hp.rs
            rw [K.block _ (lt_of_heap gZ.out) ?_]
            · exact gZ.out
            · rintro (q | q)
              · have := gZ.out; rw [q, hp.sp.sts] at this; simp at this
              · have := gZ.out; rw [q, r.self] at this; simp at this)
          have P1 : Hid (Calls Try.prog 23 #[.pointer (some ⟨d1, 0, none⟩), .pointer (some ⟨e1, 0, none⟩), .agg #[.bool two, .int .i64 kind, .int .i64 block]] Z fun r w' => r = .returned (.bool true) ∧ Pr w.heap.size w' d1 s1 e1 am.toNat (stepR am.toNat kind block l1) ∧ Kept (fun k => k = s1 ∨ k = e1) Z w') := Lib.hid (plays_any PZ.out.1 PZ.out.2.2.2.2.size ⟨two, kind, block⟩ HB.out)
          have P2 : Hid (Calls Try.prog 23 #[.pointer (some ⟨d2, 0, none⟩), .pointer (some ⟨e2, 0, none⟩), .agg #[.bool two, .int .i64 kind, .int .i64 block]] Z fun r w' => r = .returned (.bool true) ∧ Pr w.heap.size w' d2 s2 e2 bm.toNat (stepR bm.toNat kind block l2) ∧ Kept (fun k => k = s2 ∨ k = e2) Z w') := Lib.hid (plays_any PZ.out.2.1 PZ.out.2.2.2.2.size ⟨two, kind, block⟩ HB.out)
          clear hY hZ bZ P
          cases two
          · go_wp2_with first | (refine wpList_load_mid rfl 38 (.tmp 95) rfl b (off + k * 3) rfl [.bool false, .int .i64 kind, .int .i64 block] _ R1.out Try.underlying38 rfl size_op ?_) | (refine wpList_store_row rfl 38 (.tmp 16) (.tmp 96) rfl wr.heap.size #[.bool false, .int .i64 kind, .int .i64 block] rfl rfl 38 #[.bool false, .int .i64 0, .int .i64 0] gY.out size_op rfl (op_one _ _ _) ?_; rw [hZ'])
            refine P1.out.mono ?_
            rintro _ w6 ⟨rfl, p6, k6⟩
            have P6 : Hid (Pr w.heap.size w6 d1 s1 e1 am.toNat (stepR am.toNat kind block l1) ∧ Pr w.heap.size w6 d2 s2 e2 bm.toNat l2 ∧ s2 ≠ s1 ∧ e2 ≠ e1 ∧ Below w.heap.size w w6) := Lib.hid ⟨p6, PZ.out.1.other PZ.out.2.1 PZ.out.2.2.1 PZ.out.2.2.2.1 k6, PZ.out.2.2.1, PZ.out.2.2.2.1, PZ.out.1.trans PZ.out.2.2.2.2 k6⟩
            clear p6 k6 P1 P2 PZ
            go_wp2_with fail
            go_roundg (N1 - (k + 1))
            case measure => have := G.out; omega
            case rel => exact ⟨k + 1, _, _, by omega, rfl, by go_num, P6.out⟩
          · go_wp2_with first | (refine wpList_load_mid rfl 38 (.tmp 95) rfl b (off + k * 3) rfl [.bool true, .int .i64 kind, .int .i64 block] _ R1.out Try.underlying38 rfl size_op ?_) | (refine wpList_store_row rfl 38 (.tmp 16) (.tmp 96) rfl wr.heap.size #[.bool true, .int .i64 kind, .int .i64 block] rfl rfl 38 #[.bool false, .int .i64 0, .int .i64 0] gY.out size_op rfl (op_one _ _ _) ?_; rw [hZ'])
            refine P2.out.mono ?_
            rintro _ w6 ⟨rfl, p6, k6⟩
            have P6 : Hid (Pr w.heap.size w6 d1 s1 e1 am.toNat l1 ∧ Pr w.heap.size w6 d2 s2 e2 bm.toNat (stepR bm.toNat kind block l2) ∧ s2 ≠ s1 ∧ e2 ≠ e1 ∧ Below w.heap.size w w6) := Lib.hid ⟨PZ.out.2.1.other PZ.out.1 (Ne.symm PZ.out.2.2.1) (Ne.symm PZ.out.2.2.2.1) k6, p6, PZ.out.2.2.1, PZ.out.2.2.2.1, PZ.out.2.1.trans PZ.out.2.2.2.2 k6⟩
            have y0 := (ZC.out w6 (GZK.out w6 s2 e2 ⟨_, _, _, PZ.out.2.1⟩ k6)).1
            have y1 := (ZC.out w6 (GZK.out w6 s2 e2 ⟨_, _, _, PZ.out.2.1⟩ k6)).2.1
            have y2 := (ZC.out w6 (GZK.out w6 s2 e2 ⟨_, _, _, PZ.out.2.1⟩ k6)).2.2
            clear p6 k6 P1 P2 PZ
            go_wp2_with fail
            go_roundg (N1 - (k + 1))
            case measure => have := G.out; omega
            case rel => exact ⟨k + 1, _, _, by omega, rfl, by go_num, P6.out⟩
        · have hge : ¬ (k : Int) < (N1 : Int) := by omega
          have P1 : Hid (Calls Try.prog 23 #[.pointer (some ⟨d1, 0, none⟩), .pointer (some ⟨e1, 0, none⟩), .agg #[.bool false, .int .i64 5, .int .i64 0]] wr fun r w' => r = .returned (.bool true) ∧ Pr w.heap.size w' d1 s1 e1 am.toNat (stepR am.toNat 5 0 l1) ∧ Kept (fun k => k = s1 ∨ k = e1) wr w') := Lib.hid (plays_any P.out.1 P.out.2.2.2.2.size ⟨false, 5, 0⟩ (by decide))
          go_wp2_with fail
          refine P1.out.mono ?_
          rintro _ w6 ⟨rfl, p6, k6⟩
          have P6 : Hid (Pr w.heap.size w6 d2 s2 e2 bm.toNat l2 ∧ Below w.heap.size w w6) := Lib.hid ⟨P.out.1.other P.out.2.1 P.out.2.2.1 P.out.2.2.2.1 k6, P.out.1.trans P.out.2.2.2.2 k6⟩
          have P2 : Hid (Calls Try.prog 23 #[.pointer (some ⟨d2, 0, none⟩), .pointer (some ⟨e2, 0, none⟩), .agg #[.bool false, .int .i64 5, .int .i64 0]] w6 fun r w' => r = .returned (.bool true) ∧ Pr w.heap.size w' d2 s2 e2 bm.toNat (stepR bm.toNat 5 0 l2) ∧ Kept (fun k => k = s2 ∨ k = e2) w6 w') := Lib.hid (plays_any P6.out.1 P6.out.2.size ⟨false, 5, 0⟩ (by decide))
          clear p6 k6 P1 P
          go_wp2_with fail
          refine P2.out.mono ?_
          rintro _ w7 ⟨rfl, p7, k7⟩
          have B7 := Lib.hid (P6.out.1.trans P6.out.2 k7)
          clear p7 k7 P2 P6
          go_wp2_with fail
          go_ret
          exact ⟨rfl, B7.out⟩
    · as_aux_lemma =>
      have BW0 : Hid (Below X2.heap.size X2 X2) := Lib.hid (Below.refl _ _)
      have NA : Hid (∀ (W : World) (u : Value), Below X2.heap.size X2 W → Ints W u at_ → Calls Try.prog 11 #[.int .i64 an, .int .i64 am, u] W fun r w' => ∃ d s, r = .returned (.tuple #[.pointer (some ⟨d, 0, none⟩), .int .i64 0]) ∧ Sp W.heap.size w' d s am.toNat (mkS am.toNat (an - am).toNat at_) ∧ Below W.heap.size W w') := Lib.hid (fun W u hW hu => (new_all _ _ u _ W hu BA.out).mono fun r w' ⟨q1, _, q3⟩ => by
        obtain ⟨d, s, r1, r2⟩ := q1 okA
        exact ⟨d, s, r1, r2, q3⟩)
      have RA : Hid (∀ (W : World), Below X2.heap.size X2 W → Calls Try.prog 22 #[.int .i64 an, .int .i64 am, .slice aa na ca] W fun r w' => ∃ d vw vn, r = .returned (.tuple #[.pointer (some ⟨d, 0, none⟩), .int .i64 0]) ∧ Rs W.heap.size w' d am.toNat vw vn (mkS am.toNat (an - am).toNat at_) ∧ Below W.heap.size W w') := Lib.hid (fun W hW => (rnew_all _ _ _ _ W (IA.out W hW) BA.out).mono fun r w' ⟨q1, _, q3⟩ => by
        obtain ⟨d, vw, vn, r1, r2⟩ := q1 okA
        exact ⟨d, vw, vn, r1, r2, q3⟩)
      have KDA := Lib.hid (KA.out X2.drew (BW0.out.trans ((below_drew _).mono BW0.out.size)))
      have IDA := Lib.hid (IA.out X2.drew (BW0.out.trans ((below_drew _).mono BW0.out.size)))
      have TRA : Hid (∀ W : World, Below X2.drew.heap.size X2.drew W → Below X2.heap.size X2 W) := Lib.hid (fun W h => (BW0.out.trans ((below_drew _).mono BW0.out.size)).trans (h.mono (BW0.out.trans ((below_drew _).mono BW0.out.size)).size))
      go_wp2_with fail
      clear hX1' hX2' hg1' hg2'
      go_region_held_law (fun W : World => W.cell? ⟨g1, 0, none⟩ = some (.int .i64 an) ∧ W.cell? ⟨g1, 1, none⟩ = some (.int .i64 am) ∧ W.cell? ⟨g1, 2, none⟩ = some (.slice aa na ca)) (first | exact KDA.out | exact KA.out _ ((TRA.out _ hA1.2).trans (hB2.mono (TRA.out _ hA1.2).size)) | exact KA.out _ (TRA.out _ hA1.2)) (first | (refine step_app_nil (by rfl) (.const (.slice none 0 0)) (.tmp 23) (by rfl) (by rfl) (by rfl) IDA.out LA.out 24 (by rfl) ?_; intro aq1 nq1 cq1 w1 hA1) | (go_at_call 11; refine (NA.out _ _ (TRA.out _ hA1.2) hA1.1.ints).mono ?_; rintro _ w2 ⟨d1, s1, rfl, hS1, hB2⟩))
      have BW2 := Lib.hid ((TRA.out _ hA1.2).trans (hB2.mono (TRA.out _ hA1.2).size))
      have SS1 : Hid (Sp w.heap.size w2 d1 s1 am.toNat (mkS am.toNat (an - am).toNat at_) ∧ X2.heap.size ≤ s1) := Lib.hid ⟨hS1.mono (Nat.le_trans BX.out.size (TRA.out _ hA1.2).size), Nat.le_trans hA1.2.size hS1.b2⟩
      have BL1 := Lib.hid (((below_drew X2).trans hA1.2).trans (hB2.mono hA1.2.size))
      have q0 := (KA.out w2 BW2.out).1
      have q1 := (KA.out w2 BW2.out).2.1
      have q2 := (KA.out w2 BW2.out).2.2
      clear hA1 hB2 hS1 KDA IDA TRA NA
      go_wp2_with fail
      refine (RA.out _ BW2.out).mono ?_
      rintro _ w3 ⟨e1, vw1, vn1, rfl, hR1, hB3⟩
      have BW3 := Lib.hid (BW2.out.trans (hB3.mono BW2.out.size))
      have PP1 : Hid (Pr w.heap.size w3 d1 s1 e1 am.toNat (mkS am.toNat (an - am).toNat at_) ∧ X2.heap.size ≤ s1 ∧ X2.heap.size ≤ e1) := Lib.hid ⟨⟨SS1.out.1.below hB3, _, _, hR1.mono (Nat.le_trans BX.out.size BW2.out.size)⟩, SS1.out.2, Nat.le_trans BL1.out.size hR1.b1⟩
      have BLT1 := Lib.hid (BL1.out.trans (hB3.mono BL1.out.size))
      clear hB3 hR1 SS1 q0 q1 q2 RA
      have NB : Hid (∀ (W : World) (u : Value), Below X2.heap.size X2 W → Ints W u bt → Calls Try.prog 11 #[.int .i64 bn, .int .i64 bm, u] W fun r w' => r = .returned (.tuple #[.pointer none, .int .i64 1]) ∧ Below W.heap.size W w') := Lib.hid (fun W u hW hu => (new_all _ _ u _ W hu BB.out).mono fun r w' ⟨_, q2, q3⟩ => ⟨q2 okB, q3⟩)
      have RB : Hid (∀ (W : World), Below X2.heap.size X2 W → Calls Try.prog 22 #[.int .i64 bn, .int .i64 bm, .slice ab nb cb] W fun r w' => r = .returned (.tuple #[.pointer none, .int .i64 1]) ∧ Below W.heap.size W w') := Lib.hid (fun W hW => (rnew_all _ _ _ _ W (IB.out W hW) BB.out).mono fun r w' ⟨_, q2, q3⟩ => ⟨q2 okB, q3⟩)
      have KDB := Lib.hid (KB.out w3.drew (BW3.out.trans ((below_drew _).mono BW3.out.size)))
      have IDB := Lib.hid (IB.out w3.drew (BW3.out.trans ((below_drew _).mono BW3.out.size)))
      have TRB : Hid (∀ W : World, Below w3.drew.heap.size w3.drew W → Below X2.heap.size X2 W) := Lib.hid (fun W h => (BW3.out.trans ((below_drew _).mono BW3.out.size)).trans (h.mono (BW3.out.trans ((below_drew _).mono BW3.out.size)).size))
      go_wp2_with fail
      go_region_held_law (fun W : World => W.cell? ⟨g2, 0, none⟩ = some (.int .i64 bn) ∧ W.cell? ⟨g2, 1, none⟩ = some (.int .i64 bm) ∧ W.cell? ⟨g2, 2, none⟩ = some (.slice ab nb cb)) (first | exact KDB.out | exact KB.out _ ((TRB.out _ hA4.2).trans (hB5.mono (TRB.out _ hA4.2).size)) | exact KB.out _ (TRB.out _ hA4.2)) (first | (refine step_app_nil (by rfl) (.const (.slice none 0 0)) (.tmp 44) (by rfl) (by rfl) (by rfl) IDB.out LB.out 45 (by rfl) ?_; intro aq2 nq2 cq2 w4 hA4) | (go_at_call 11; refine (NB.out _ _ (TRB.out _ hA4.2) hA4.1.ints).mono ?_; rintro _ w5 ⟨rfl, hB5⟩))
      have BW5 := Lib.hid ((TRB.out _ hA4.2).trans (hB5.mono (TRB.out _ hA4.2).size))
      have BL2 := Lib.hid (((below_drew w3).trans hA4.2).trans (hB5.mono hA4.2.size))
      have q0 := (KB.out w5 BW5.out).1
      have q1 := (KB.out w5 BW5.out).2.1
      have q2 := (KB.out w5 BW5.out).2.2
      clear hA4 hB5 KDB IDB TRB NB
      go_wp2_with fail
      refine (RB.out _ BW5.out).mono ?_
      rintro _ w6 ⟨rfl, hB6⟩
      have BW6 := Lib.hid (BW5.out.trans (hB6.mono BW5.out.size))
      have BLT2 := Lib.hid (BL2.out.trans (hB6.mono BL2.out.size))
      clear hB6 q0 q1 q2 RB
      go_wp2_with fail
      go_ret
      exact ⟨rfl, BX.out.trans (BW6.out.mono BX.out.size)⟩
  · by_cases okB : NewOk bn bm bt
    · as_aux_lemma =>
      have BW0 : Hid (Below X2.heap.size X2 X2) := Lib.hid (Below.refl _ _)
      have NA : Hid (∀ (W : World) (u : Value), Below X2.heap.size X2 W → Ints W u at_ → Calls Try.prog 11 #[.int .i64 an, .int .i64 am, u] W fun r w' => r = .returned (.tuple #[.pointer none, .int .i64 1]) ∧ Below W.heap.size W w') := Lib.hid (fun W u hW hu => (new_all _ _ u _ W hu BA.out).mono fun r w' ⟨_, q2, q3⟩ => ⟨q2 okA, q3⟩)
      have RA : Hid (∀ (W : World), Below X2.heap.size X2 W → Calls Try.prog 22 #[.int .i64 an, .int .i64 am, .slice aa na ca] W fun r w' => r = .returned (.tuple #[.pointer none, .int .i64 1]) ∧ Below W.heap.size W w') := Lib.hid (fun W hW => (rnew_all _ _ _ _ W (IA.out W hW) BA.out).mono fun r w' ⟨_, q2, q3⟩ => ⟨q2 okA, q3⟩)
      have KDA := Lib.hid (KA.out X2.drew (BW0.out.trans ((below_drew _).mono BW0.out.size)))
      have IDA := Lib.hid (IA.out X2.drew (BW0.out.trans ((below_drew _).mono BW0.out.size)))
      have TRA : Hid (∀ W : World, Below X2.drew.heap.size X2.drew W → Below X2.heap.size X2 W) := Lib.hid (fun W h => (BW0.out.trans ((below_drew _).mono BW0.out.size)).trans (h.mono (BW0.out.trans ((below_drew _).mono BW0.out.size)).size))
      go_wp2_with fail
      clear hX1' hX2' hg1' hg2'
      go_region_held_law (fun W : World => W.cell? ⟨g1, 0, none⟩ = some (.int .i64 an) ∧ W.cell? ⟨g1, 1, none⟩ = some (.int .i64 am) ∧ W.cell? ⟨g1, 2, none⟩ = some (.slice aa na ca)) (first | exact KDA.out | exact KA.out _ ((TRA.out _ hA1.2).trans (hB2.mono (TRA.out _ hA1.2).size)) | exact KA.out _ (TRA.out _ hA1.2)) (first | (refine step_app_nil (by rfl) (.const (.slice none 0 0)) (.tmp 23) (by rfl) (by rfl) (by rfl) IDA.out LA.out 24 (by rfl) ?_; intro aq1 nq1 cq1 w1 hA1) | (go_at_call 11; refine (NA.out _ _ (TRA.out _ hA1.2) hA1.1.ints).mono ?_; rintro _ w2 ⟨rfl, hB2⟩))
      have BW2 := Lib.hid ((TRA.out _ hA1.2).trans (hB2.mono (TRA.out _ hA1.2).size))
      have BL1 := Lib.hid (((below_drew X2).trans hA1.2).trans (hB2.mono hA1.2.size))
      have q0 := (KA.out w2 BW2.out).1
      have q1 := (KA.out w2 BW2.out).2.1
      have q2 := (KA.out w2 BW2.out).2.2
      clear hA1 hB2 KDA IDA TRA NA
      go_wp2_with fail
      refine (RA.out _ BW2.out).mono ?_
      rintro _ w3 ⟨rfl, hB3⟩
      have BW3 := Lib.hid (BW2.out.trans (hB3.mono BW2.out.size))
      have BLT1 := Lib.hid (BL1.out.trans (hB3.mono BL1.out.size))
      clear hB3 q0 q1 q2 RA
      have NB : Hid (∀ (W : World) (u : Value), Below X2.heap.size X2 W → Ints W u bt → Calls Try.prog 11 #[.int .i64 bn, .int .i64 bm, u] W fun r w' => ∃ d s, r = .returned (.tuple #[.pointer (some ⟨d, 0, none⟩), .int .i64 0]) ∧ Sp W.heap.size w' d s bm.toNat (mkS bm.toNat (bn - bm).toNat bt) ∧ Below W.heap.size W w') := Lib.hid (fun W u hW hu => (new_all _ _ u _ W hu BB.out).mono fun r w' ⟨q1, _, q3⟩ => by
        obtain ⟨d, s, r1, r2⟩ := q1 okB
        exact ⟨d, s, r1, r2, q3⟩)
      have RB : Hid (∀ (W : World), Below X2.heap.size X2 W → Calls Try.prog 22 #[.int .i64 bn, .int .i64 bm, .slice ab nb cb] W fun r w' => ∃ d vw vn, r = .returned (.tuple #[.pointer (some ⟨d, 0, none⟩), .int .i64 0]) ∧ Rs W.heap.size w' d bm.toNat vw vn (mkS bm.toNat (bn - bm).toNat bt) ∧ Below W.heap.size W w') := Lib.hid (fun W hW => (rnew_all _ _ _ _ W (IB.out W hW) BB.out).mono fun r w' ⟨q1, _, q3⟩ => by
        obtain ⟨d, vw, vn, r1, r2⟩ := q1 okB
        exact ⟨d, vw, vn, r1, r2, q3⟩)
      have KDB := Lib.hid (KB.out w3.drew (BW3.out.trans ((below_drew _).mono BW3.out.size)))
      have IDB := Lib.hid (IB.out w3.drew (BW3.out.trans ((below_drew _).mono BW3.out.size)))
      have TRB : Hid (∀ W : World, Below w3.drew.heap.size w3.drew W → Below X2.heap.size X2 W) := Lib.hid (fun W h => (BW3.out.trans ((below_drew _).mono BW3.out.size)).trans (h.mono (BW3.out.trans ((below_drew _).mono BW3.out.size)).size))
      go_wp2_with fail
      go_region_held_law (fun W : World => W.cell? ⟨g2, 0, none⟩ = some (.int .i64 bn) ∧ W.cell? ⟨g2, 1, none⟩ = some (.int .i64 bm) ∧ W.cell? ⟨g2, 2, none⟩ = some (.slice ab nb cb)) (first | exact KDB.out | exact KB.out _ ((TRB.out _ hA4.2).trans (hB5.mono (TRB.out _ hA4.2).size)) | exact KB.out _ (TRB.out _ hA4.2)) (first | (refine step_app_nil (by rfl) (.const (.slice none 0 0)) (.tmp 44) (by rfl) (by rfl) (by rfl) IDB.out LB.out 45 (by rfl) ?_; intro aq2 nq2 cq2 w4 hA4) | (go_at_call 11; refine (NB.out _ _ (TRB.out _ hA4.2) hA4.1.ints).mono ?_; rintro _ w5 ⟨d2, s2, rfl, hS2, hB5⟩))
      have BW5 := Lib.hid ((TRB.out _ hA4.2).trans (hB5.mono (TRB.out _ hA4.2).size))
      have SS2 : Hid (Sp w.heap.size w5 d2 s2 bm.toNat (mkS bm.toNat (bn - bm).toNat bt) ∧ w3.heap.size ≤ s2) := Lib.hid ⟨hS2.mono (Nat.le_trans BX.out.size (TRB.out _ hA4.2).size), Nat.le_trans hA4.2.size hS2.b2⟩
      have BL2 := Lib.hid (((below_drew w3).trans hA4.2).trans (hB5.mono hA4.2.size))
      have q0 := (KB.out w5 BW5.out).1
      have q1 := (KB.out w5 BW5.out).2.1
      have q2 := (KB.out w5 BW5.out).2.2
      clear hA4 hB5 hS2 KDB IDB TRB NB
      go_wp2_with fail
      refine (RB.out _ BW5.out).mono ?_
      rintro _ w6 ⟨e2, vw2, vn2, rfl, hR2, hB6⟩
      have BW6 := Lib.hid (BW5.out.trans (hB6.mono BW5.out.size))
      have PP2 : Hid (Pr w.heap.size w6 d2 s2 e2 bm.toNat (mkS bm.toNat (bn - bm).toNat bt) ∧ w3.heap.size ≤ s2 ∧ w3.heap.size ≤ e2) := Lib.hid ⟨⟨SS2.out.1.below hB6, _, _, hR2.mono (Nat.le_trans BX.out.size BW5.out.size)⟩, SS2.out.2, Nat.le_trans BL2.out.size hR2.b1⟩
      have BLT2 := Lib.hid (BL2.out.trans (hB6.mono BL2.out.size))
      clear hB6 hR2 SS2 q0 q1 q2 RB
      go_wp2_with fail
      go_ret
      exact ⟨rfl, BX.out.trans (BW6.out.mono BX.out.size)⟩
    · as_aux_lemma =>
      have BW0 : Hid (Below X2.heap.size X2 X2) := Lib.hid (Below.refl _ _)
      have NA : Hid (∀ (W : World) (u : Value), Below X2.heap.size X2 W → Ints W u at_ → Calls Try.prog 11 #[.int .i64 an, .int .i64 am, u] W fun r w' => r = .returned (.tuple #[.pointer none, .int .i64 1]) ∧ Below W.heap.size W w') := Lib.hid (fun W u hW hu => (new_all _ _ u _ W hu BA.out).mono fun r w' ⟨_, q2, q3⟩ => ⟨q2 okA, q3⟩)
      have RA : Hid (∀ (W : World), Below X2.heap.size X2 W → Calls Try.prog 22 #[.int .i64 an, .int .i64 am, .slice aa na ca] W fun r w' => r = .returned (.tuple #[.pointer none, .int .i64 1]) ∧ Below W.heap.size W w') := Lib.hid (fun W hW => (rnew_all _ _ _ _ W (IA.out W hW) BA.out).mono fun r w' ⟨_, q2, q3⟩ => ⟨q2 okA, q3⟩)
      have KDA := Lib.hid (KA.out X2.drew (BW0.out.trans ((below_drew _).mono BW0.out.size)))
      have IDA := Lib.hid (IA.out X2.drew (BW0.out.trans ((below_drew _).mono BW0.out.size)))
      have TRA : Hid (∀ W : World, Below X2.drew.heap.size X2.drew W → Below X2.heap.size X2 W) := Lib.hid (fun W h => (BW0.out.trans ((below_drew _).mono BW0.out.size)).trans (h.mono (BW0.out.trans ((below_drew _).mono BW0.out.size)).size))
      go_wp2_with fail
      clear hX1' hX2' hg1' hg2'
      go_region_held_law (fun W : World => W.cell? ⟨g1, 0, none⟩ = some (.int .i64 an) ∧ W.cell? ⟨g1, 1, none⟩ = some (.int .i64 am) ∧ W.cell? ⟨g1, 2, none⟩ = some (.slice aa na ca)) (first | exact KDA.out | exact KA.out _ ((TRA.out _ hA1.2).trans (hB2.mono (TRA.out _ hA1.2).size)) | exact KA.out _ (TRA.out _ hA1.2)) (first | (refine step_app_nil (by rfl) (.const (.slice none 0 0)) (.tmp 23) (by rfl) (by rfl) (by rfl) IDA.out LA.out 24 (by rfl) ?_; intro aq1 nq1 cq1 w1 hA1) | (go_at_call 11; refine (NA.out _ _ (TRA.out _ hA1.2) hA1.1.ints).mono ?_; rintro _ w2 ⟨rfl, hB2⟩))
      have BW2 := Lib.hid ((TRA.out _ hA1.2).trans (hB2.mono (TRA.out _ hA1.2).size))
      have BL1 := Lib.hid (((below_drew X2).trans hA1.2).trans (hB2.mono hA1.2.size))
      have q0 := (KA.out w2 BW2.out).1
      have q1 := (KA.out w2 BW2.out).2.1
      have q2 := (KA.out w2 BW2.out).2.2
      clear hA1 hB2 KDA IDA TRA NA
      go_wp2_with fail
      refine (RA.out _ BW2.out).mono ?_
      rintro _ w3 ⟨rfl, hB3⟩
      have BW3 := Lib.hid (BW2.out.trans (hB3.mono BW2.out.size))
      have BLT1 := Lib.hid (BL1.out.trans (hB3.mono BL1.out.size))
      clear hB3 q0 q1 q2 RA
      have NB : Hid (∀ (W : World) (u : Value), Below X2.heap.size X2 W → Ints W u bt → Calls Try.prog 11 #[.int .i64 bn, .int .i64 bm, u] W fun r w' => r = .returned (.tuple #[.pointer none, .int .i64 1]) ∧ Below W.heap.size W w') := Lib.hid (fun W u hW hu => (new_all _ _ u _ W hu BB.out).mono fun r w' ⟨_, q2, q3⟩ => ⟨q2 okB, q3⟩)
      have RB : Hid (∀ (W : World), Below X2.heap.size X2 W → Calls Try.prog 22 #[.int .i64 bn, .int .i64 bm, .slice ab nb cb] W fun r w' => r = .returned (.tuple #[.pointer none, .int .i64 1]) ∧ Below W.heap.size W w') := Lib.hid (fun W hW => (rnew_all _ _ _ _ W (IB.out W hW) BB.out).mono fun r w' ⟨_, q2, q3⟩ => ⟨q2 okB, q3⟩)
      have KDB := Lib.hid (KB.out w3.drew (BW3.out.trans ((below_drew _).mono BW3.out.size)))
      have IDB := Lib.hid (IB.out w3.drew (BW3.out.trans ((below_drew _).mono BW3.out.size)))
      have TRB : Hid (∀ W : World, Below w3.drew.heap.size w3.drew W → Below X2.heap.size X2 W) := Lib.hid (fun W h => (BW3.out.trans ((below_drew _).mono BW3.out.size)).trans (h.mono (BW3.out.trans ((below_drew _).mono BW3.out.size)).size))
      go_wp2_with fail
      go_region_held_law (fun W : World => W.cell? ⟨g2, 0, none⟩ = some (.int .i64 bn) ∧ W.cell? ⟨g2, 1, none⟩ = some (.int .i64 bm) ∧ W.cell? ⟨g2, 2, none⟩ = some (.slice ab nb cb)) (first | exact KDB.out | exact KB.out _ ((TRB.out _ hA4.2).trans (hB5.mono (TRB.out _ hA4.2).size)) | exact KB.out _ (TRB.out _ hA4.2)) (first | (refine step_app_nil (by rfl) (.const (.slice none 0 0)) (.tmp 44) (by rfl) (by rfl) (by rfl) IDB.out LB.out 45 (by rfl) ?_; intro aq2 nq2 cq2 w4 hA4) | (go_at_call 11; refine (NB.out _ _ (TRB.out _ hA4.2) hA4.1.ints).mono ?_; rintro _ w5 ⟨rfl, hB5⟩))
      have BW5 := Lib.hid ((TRB.out _ hA4.2).trans (hB5.mono (TRB.out _ hA4.2).size))
      have BL2 := Lib.hid (((below_drew w3).trans hA4.2).trans (hB5.mono hA4.2.size))
      have q0 := (KB.out w5 BW5.out).1
      have q1 := (KB.out w5 BW5.out).2.1
      have q2 := (KB.out w5 BW5.out).2.2
      clear hA4 hB5 KDB IDB TRB NB
      go_wp2_with fail
      refine (RB.out _ BW5.out).mono ?_
      rintro _ w6 ⟨rfl, hB6⟩
      have BW6 := Lib.hid (BW5.out.trans (hB6.mono BW5.out.size))
      have BLT2 := Lib.hid (BL2.out.trans (hB6.mono BL2.out.size))
      clear hB6 q0 q1 q2 RB
      go_wp2_with fail
      go_ret
      exact ⟨rfl, BX.out.trans (BW6.out.mono BX.out.size)⟩
end Go.Proofs.Ytfdhccanacpanaa
