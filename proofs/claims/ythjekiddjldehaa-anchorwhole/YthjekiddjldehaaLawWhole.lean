/-
  AnchorWhole.
-/
import Derived.Test.YthjekiddjldehaaAnY
namespace Go.Proofs.Ythjekiddjldehaa
open Go.RowKit Go.Maps
set_option maxRecDepth 100000 in
set_option maxHeartbeats 40000000 in
theorem anchorWhole_walk (v0 : Value) (l : List TrD) (w : World) (hv : Trs w v0 l) (hl : l.length ≤ 1256584717421) :
    Calls Try.prog 5 #[v0] w fun e w' => e = .returned (.bool true) ∧ Below w.heap.size w w' := by
  obtain ⟨hat, a, cap, rfl, hlc, hcm, hcell⟩ := hv
  unfold maxLen at hcm
  have HAT := Lib.hid hat
  have HCE := Lib.hid hcell
  obtain ⟨n, hn⟩ : ∃ n, n = l.length := ⟨_, rfl⟩
  rw [← hn] at hlc hl ⊢
  have NL := Lib.hid hn
  have NW := fun W => Lib.hid (new_ok 64 W (by decide) (by decide))
  obtain ⟨z, hz⟩ : ∃ z : List UInt8, z = List.replicate (512 * 64) 0 := ⟨_, rfl⟩
  have ZM : Hid (Zm z) := Lib.hid (by rw [hz]; exact zm_zs)
  rw [← hz] at NW
  clear hat hcell hn hz
  go_enter Try.func5, Try.ntmps5
  go_wp2_with fail
  refine (fixed_any w).mono ?_
  rintro _ w1 ⟨rfl, b1⟩
  have B1 := Lib.hid b1
  clear b1
  go_wp2_with fail
  refine (NW w1).out.mono ?_
  rintro _ w2 ⟨rfl, b2, d2⟩
  obtain ⟨dm, hdm⟩ : ∃ n, n = w1.heap.size := ⟨_, rfl⟩
  rw [← hdm] at d2 ⊢
  have D2 : Hid (Dv w.heap.size w2 (dm + 2) dm (dm + 1) (.slice none 0 0) (newD 64 z) ∧ Below w.heap.size w w2) := Lib.hid ⟨⟨d2.self, d2.med, World.ownsRow_nil _ _ _ _, d2.latest, d2.fit, by have := B1.out.size; omega, by have := B1.out.size; omega, by have := B1.out.size; omega⟩, B1.out.trans (b2.mono B1.out.size)⟩
  obtain ⟨g6, hg6⟩ : ∃ g, g = w2.heap.size := ⟨_, rfl⟩
  have W0 : Hid (Ws w (w2.alloc (.cells #[.int .i64 0, .int .i64 0, .int .i64 0, .int .i64 0, .int .i64 0, .int .i64 0, .int .i64 0, .int .i64 0, .int .i64 0] 25)) (dm + 2) dm (dm + 1) (.slice none 0 0) (newD 64 z) g6 zeroS 0) := Lib.hid (by
    have q0 : Below w2.heap.size w2 (w2.alloc (.cells #[.int .i64 0, .int .i64 0, .int .i64 0, .int .i64 0, .int .i64 0, .int .i64 0, .int .i64 0, .int .i64 0, .int .i64 0] 25)) := (Below.refl _ _).alloc (Nat.le_refl _) _
    exact ⟨D2.out.1.below q0, by rw [hg6]; exact heap_alloc_new _ _, D2.out.2.trans (q0.mono D2.out.2.size), by rw [hg6]; exact D2.out.2.size, rfl, rfl, rfl, iv_zero ZM.out, Int.le_refl _, Nat.le_refl _⟩)
  have hg6' := hg6.symm
  clear b2 d2 hdm NW D2 B1 hg6
  go_wp2_with fail
  clear hg6'
  go_loopg [7, 8, 9, 10, 11, 12, 13, 14, 15, 16, 17, 18, 19] n (fun gg s7 s8 s9 s10 s11 s12 s13 s14 s15 s16 s17 s18 s19 wr => ∃ (k : Nat) (cv : Value) (ds : DS) (c : Sup), k ≤ n ∧ gg = n - k ∧ s7 = .int .i64 k ∧ Ws w wr (dm + 2) dm (dm + 1) cv ds g6 c k)
  case atStart => exact ⟨0, _, _, _, Nat.zero_le _, rfl, rfl, W0.out⟩
  case round =>
    obtain ⟨k, cv, ds, ⟨cgen, cep, cblk, clog, cst, cpl, crt, ccnt, cver⟩, hk, hgk, rfl, hws⟩ := hrel
    have G : Aside (gk = n - k) := hgk
    have WS := Lib.hid hws
    clear hgk hws W0
    by_cases hlt : k < n
    · have hlt' : (k : Int) < (n : Int) := by omega
      obtain ⟨⟨⟨xgen, xep, xblk, xlog, xst, xpl, xrt, xcnt, xver⟩, arm, cr, fv, fs⟩, ho⟩ : ∃ o, l[k]? = some o := ⟨_, List.getElem?_eq_getElem (by rw [← NL.out]; exact hlt)⟩
      obtain ⟨b, off, rfl, hce⟩ := HCE.out (by rintro rfl; simp at ho)
      obtain ⟨af, nf, cf, rfl⟩ : ∃ a n c, fv = .slice a n c := by obtain ⟨a, c, e, _⟩ := (HAT.out _ (List.mem_of_getElem? ho)).1; exact ⟨a, _, c, e⟩
      have FT : Hid (∀ W, Below w.heap.size w W → Fts W (.slice af nf cf) fs) := Lib.hid (fun W h => (HAT.out _ (List.mem_of_getElem? ho)).1.below h)
      have FL : Hid (fs.length ≤ 8796093022199) := Lib.hid (HAT.out _ (List.mem_of_getElem? ho)).2
      have e0 : wr.cell? ⟨b, off + k * 12, none⟩ = some (.int .i64 xgen) := by have q := hce k _ ho 0 (.int .i64 xgen) rfl; rw [Nat.add_zero] at q; rw [WS.out.bl.cell (block_lt_of_cell q)]; exact q
      have e1 : wr.cell? ⟨b, off + k * 12 + 1, none⟩ = some (.int .i64 xep) := by have q := hce k _ ho 1 (.int .i64 xep) rfl;  rw [WS.out.bl.cell (block_lt_of_cell q)]; exact q
      have e2 : wr.cell? ⟨b, off + k * 12 + 2, none⟩ = some (.int .i64 xblk) := by have q := hce k _ ho 2 (.int .i64 xblk) rfl;  rw [WS.out.bl.cell (block_lt_of_cell q)]; exact q
      have e3 : wr.cell? ⟨b, off + k * 12 + 3, none⟩ = some (.int .i64 xlog) := by have q := hce k _ ho 3 (.int .i64 xlog) rfl;  rw [WS.out.bl.cell (block_lt_of_cell q)]; exact q
      have e4 : wr.cell? ⟨b, off + k * 12 + 4, none⟩ = some (.int .i64 xst) := by have q := hce k _ ho 4 (.int .i64 xst) rfl;  rw [WS.out.bl.cell (block_lt_of_cell q)]; exact q
      have e5 : wr.cell? ⟨b, off + k * 12 + 5, none⟩ = some (.int .i64 xpl) := by have q := hce k _ ho 5 (.int .i64 xpl) rfl;  rw [WS.out.bl.cell (block_lt_of_cell q)]; exact q
      have e6 : wr.cell? ⟨b, off + k * 12 + 6, none⟩ = some (.int .i64 xrt) := by have q := hce k _ ho 6 (.int .i64 xrt) rfl;  rw [WS.out.bl.cell (block_lt_of_cell q)]; exact q
      have e7 : wr.cell? ⟨b, off + k * 12 + 7, none⟩ = some (.int .i64 xcnt) := by have q := hce k _ ho 7 (.int .i64 xcnt) rfl;  rw [WS.out.bl.cell (block_lt_of_cell q)]; exact q
      have e8 : wr.cell? ⟨b, off + k * 12 + 8, none⟩ = some (.int .i64 xver) := by have q := hce k _ ho 8 (.int .i64 xver) rfl;  rw [WS.out.bl.cell (block_lt_of_cell q)]; exact q
      have e9 : wr.cell? ⟨b, off + k * 12 + 9, none⟩ = some (.int .i64 arm) := by have q := hce k _ ho 9 (.int .i64 arm) rfl;  rw [WS.out.bl.cell (block_lt_of_cell q)]; exact q
      have e10 : wr.cell? ⟨b, off + k * 12 + 10, none⟩ = some (.bool cr) := by have q := hce k _ ho 10 (.bool cr) rfl;  rw [WS.out.bl.cell (block_lt_of_cell q)]; exact q
      have e11 : wr.cell? ⟨b, off + k * 12 + 11, none⟩ = some ((.slice af nf cf)) := by have q := hce k _ ho 11 ((.slice af nf cf)) rfl;  rw [WS.out.bl.cell (block_lt_of_cell q)]; exact q
      have CG : Hid (0 ≤ cgen ∧ cgen ≤ (k : Int)) := Lib.hid ⟨WS.out.iv.gen, WS.out.gk⟩
      have cg0 := CG.out.1
      have cg1 := CG.out.2
      obtain ⟨⟨ngen, nep, nblk, nlog, nst, npl, nrt, ncnt, nver⟩, hnx⟩ : ∃ s, s = rightS (Sup.mk xgen xep xblk xlog xst xpl xrt xcnt xver) (cgen + 1) := ⟨_, rfl⟩
      have GNX : ngen = cgen + 1 := congrArg Sup.gen hnx
      have GP : Hid (ngen = cgen + 1 ∧ 0 ≤ cgen) := Lib.hid ⟨GNX, cg0⟩
      have GN : Hid ((Sup.mk ngen nep nblk nlog nst npl nrt ncnt nver).gen = (Sup.mk cgen cep cblk clog cst cpl crt ccnt cver).gen + 1) := Lib.hid GNX
      have VN : Hid (vaB (Sup.mk ngen nep nblk nlog nst npl nrt ncnt nver) 64 = true) := Lib.hid (by rw [hnx]; exact right_va _ _ (by omega) (by omega))
      have GK : Hid (cgen ≤ (k : Int)) := Lib.hid cg1
      have KN : Hid (k < 1256584717421) := Lib.hid (by omega)
      have RX : Hid (∀ W, Calls Try.prog 10 #[.agg #[.int .i64 xgen, .int .i64 xep, .int .i64 xblk, .int .i64 xlog, .int .i64 xst, .int .i64 xpl, .int .i64 xrt, .int .i64 xcnt, .int .i64 xver], .int .i64 (cgen + 1)] W fun e w' => e = .returned (.agg #[.int .i64 ngen, .int .i64 nep, .int .i64 nblk, .int .i64 nlog, .int .i64 nst, .int .i64 npl, .int .i64 nrt, .int .i64 ncnt, .int .i64 nver]) ∧ Below W.heap.size W w') := Lib.hid (fun W => by have := right_any (Sup.mk xgen xep xblk xlog xst xpl xrt xcnt xver) (cgen + 1) W; rw [← hnx] at this; exact this)
      have AW : ∀ ob, Below wr.heap.size wr (wr.alloc ob) := fun ob => (Below.refl _ _).alloc (Nat.le_refl _) ob
      have z6 : ∀ ob, (wr.alloc ob).cell? ⟨g6, 0, none⟩ = some (.int .i64 cgen) := fun ob => (sup_cells (s := (Sup.mk cgen cep cblk clog cst cpl crt ccnt cver)) (((AW ob).block _ (lt_of_heap WS.out.b6)).trans WS.out.b6)).1
      obtain ⟨g8, hg8⟩ : ∃ g, g = wr.heap.size := ⟨_, rfl⟩
      have hg8' := hg8.symm
      have H8 := Lib.hid hg8
      clear hce ho hnx GNX AW hg8
      go_wp2_with fail
      refine (RX.out _).mono ?_
      rintro _ w3 ⟨rfl, b3⟩
      obtain ⟨g9, hg9⟩ : ∃ g, g = w3.heap.size := ⟨_, rfl⟩
      have Y3 : Hid (∀ W, W = w3.alloc (.cells #[.int .i64 ngen, .int .i64 nep, .int .i64 nblk, .int .i64 nlog, .int .i64 nst, .int .i64 npl, .int .i64 nrt, .int .i64 ncnt, .int .i64 nver] 25) → Wy w W (dm + 2) dm (dm + 1) cv ds g6 g8 g9 (Sup.mk cgen cep cblk clog cst cpl crt ccnt cver) (Sup.mk ngen nep nblk nlog nst npl nrt ncnt nver) #[.int .i64 xgen, .int .i64 xep, .int .i64 xblk, .int .i64 xlog, .int .i64 xst, .int .i64 xpl, .int .i64 xrt, .int .i64 xcnt, .int .i64 xver, .int .i64 arm, .bool cr, (.slice af nf cf)]) := Lib.hid (fun W hW => by
        have q0 : Below wr.heap.size wr (wr.alloc (.cells #[.int .i64 xgen, .int .i64 xep, .int .i64 xblk, .int .i64 xlog, .int .i64 xst, .int .i64 xpl, .int .i64 xrt, .int .i64 xcnt, .int .i64 xver, .int .i64 arm, .bool cr, (.slice af nf cf)] 51)) := (Below.refl _ _).alloc (Nat.le_refl _) _
        have q1 := q0.trans (b3.mono q0.size)
        have q2 : Below w3.heap.size w3 W := by rw [hW]; exact (Below.refl _ _).alloc (Nat.le_refl _) _
        have q3 := q1.trans (q2.mono q1.size)
        have l6 := lt_of_heap WS.out.b6
        refine ⟨WS.out.dv.below q3, (q3.block _ l6).trans WS.out.b6, ?_, by rw [hW, hg9]; exact heap_alloc_new _ _, WS.out.bl.trans (q3.mono WS.out.bl.size), ⟨by have := q1.size; omega, WS.out.lo⟩⟩
        have q4 : w3.heap[g8]? = some (.cells #[.int .i64 xgen, .int .i64 xep, .int .i64 xblk, .int .i64 xlog, .int .i64 xst, .int .i64 xpl, .int .i64 xrt, .int .i64 xcnt, .int .i64 xver, .int .i64 arm, .bool cr, (.slice af nf cf)] 51 (0, 0)) := by rw [H8.out, b3.block _ (by simp)]; exact heap_alloc_new _ _
        exact (q2.block _ (lt_of_heap q4)).trans q4)
      have SF : Hid (ds.down = false ∧ ds.cache = [] ∧ ds.n = 64 ∧ ds.ws ≤ k) := Lib.hid ⟨WS.out.dn, WS.out.ca, WS.out.n, WS.out.ws⟩
      have SI : Hid (Iv ds.med (Sup.mk cgen cep cblk clog cst cpl crt ccnt cver)) := Lib.hid WS.out.iv
      have LO : Hid (w.heap.size ≤ g6) := Lib.hid WS.out.lo
      have z9 : ∀ ob, (w3.alloc ob).cell? ⟨g8, 9, none⟩ = some (.int .i64 arm) := fun ob => by
        have q4 : w3.heap[g8]? = some (.cells #[.int .i64 xgen, .int .i64 xep, .int .i64 xblk, .int .i64 xlog, .int .i64 xst, .int .i64 xpl, .int .i64 xrt, .int .i64 xcnt, .int .i64 xver, .int .i64 arm, .bool cr, (.slice af nf cf)] 51 (0, 0)) := by rw [H8.out, b3.block _ (by simp)]; exact heap_alloc_new _ _
        have q5 : (w3.alloc ob).heap[g8]? = some (.cells #[.int .i64 xgen, .int .i64 xep, .int .i64 xblk, .int .i64 xlog, .int .i64 xst, .int .i64 xpl, .int .i64 xrt, .int .i64 xcnt, .int .i64 xver, .int .i64 arm, .bool cr, (.slice af nf cf)] 51 (0, 0)) := by rw [Below.heap_alloc _ _ _ (lt_of_heap q4)]; exact q4
        rw [cell_of_row _ _ _ _ _ _ q5]
        rfl
      have hg9' := hg9.symm
      clear b3 RX hg9 WS z6 hg8' e0 e1 e2 e3 e4 e5 e6 e7 e8 e9 e10 e11 H8
      by_cases ha : arm ≥ 0
      · have fa : decide (arm ≥ 0) = true := decide_eq_true ha
        have Y4 : Hid (Wy w (w3.alloc (.cells #[.int .i64 ngen, .int .i64 nep, .int .i64 nblk, .int .i64 nlog, .int .i64 nst, .int .i64 npl, .int .i64 nrt, .int .i64 ncnt, .int .i64 nver] 25)) (dm + 2) dm (dm + 1) cv ds g6 g8 g9 (Sup.mk cgen cep cblk clog cst cpl crt ccnt cver) (Sup.mk ngen nep nblk nlog nst npl nrt ncnt nver) #[.int .i64 xgen, .int .i64 xep, .int .i64 xblk, .int .i64 xlog, .int .i64 xst, .int .i64 xpl, .int .i64 xrt, .int .i64 xcnt, .int .i64 xver, .int .i64 arm, .bool cr, (.slice af nf cf)]) := Lib.hid (Y3.out _ rfl)
        have AX := Lib.hid (arm_x Y4.out arm ha SF.out.1)
        clear ha Y3
        go_wp2_with fail
        refine AX.out.mono ?_
        rintro _ w4 ⟨rfl, y4⟩
        obtain ⟨DD, hDD⟩ : ∃ D, D = { ds with armed := true, left := arm } := ⟨_, rfl⟩
        rw [← hDD] at y4
        have Y := Lib.hid y4
        have DF : Hid (DD.down = false ∧ DD.cache = [] ∧ DD.n = 64 ∧ DD.ws ≤ k) := Lib.hid (by rw [hDD]; exact SF.out)
        have DI : Hid (Iv DD.med (Sup.mk cgen cep cblk clog cst cpl crt ccnt cver)) := Lib.hid (by rw [hDD]; exact SI.out)
        obtain ⟨b0, b1, b2, b3, b4, b5, b6, b7, b8⟩ := sup_cells (s := (Sup.mk ngen nep nblk nlog nst npl nrt ncnt nver)) y4.b9
        simp only at b0 b1 b2 b3 b4 b5 b6 b7 b8
        clear y4 AX Y4 hDD SF SI z9 hg9' fa
        rcases wr_out (ds := DD) DF.out.2.1 DF.out.2.2.1 VN.out GN.out DI.out with ⟨e0, d0, c0, n0, ws0, iv0⟩ | ⟨e6, l6, n6, ws6, iv6⟩
        · have WX := Lib.hid (write_x Y.out (Sup.mk ngen nep nblk nlog nst npl nrt ncnt nver) (by have := DF.out.2.2.2; have := KN.out; omega) DF.out.2.1)
          rw [e0] at WX
          obtain ⟨E, hE⟩ : ∃ E, E = (wrA DD (Sup.mk ngen nep nblk nlog nst npl nrt ncnt nver)).1 := ⟨_, rfl⟩
          rw [← hE] at WX d0 c0 n0 ws0 iv0
          have EF : Hid (E.down = false ∧ E.cache = [] ∧ E.n = 64 ∧ E.ws ≤ k + 1) := Lib.hid ⟨d0, c0, n0, by have := DF.out.2.2.2; omega⟩
          have EI := Lib.hid iv0
          clear e0 d0 c0 n0 ws0 iv0 hE
          go_wp2_with fail
          refine WX.out.mono ?_
          rintro _ w5 ⟨cv5, rfl, y5⟩
          have Y5 := Lib.hid y5
          clear y5 WX Y
          obtain ⟨a0, a1, a2, a3, a4, a5, a6, a7, a8⟩ := sup_cells (s := (Sup.mk ngen nep nblk nlog nst npl nrt ncnt nver)) Y5.out.b9
          simp only at a0 a1 a2 a3 a4 a5 a6 a7 a8
          have Y6 : Hid (Wy w (w5.setRow g6 (Sup.mk ngen nep nblk nlog nst npl nrt ncnt nver).arr) (dm + 2) dm (dm + 1) cv5 E g6 g8 g9 (Sup.mk ngen nep nblk nlog nst npl nrt ncnt nver) (Sup.mk ngen nep nblk nlog nst npl nrt ncnt nver) #[.int .i64 xgen, .int .i64 xep, .int .i64 xblk, .int .i64 xlog, .int .i64 xst, .int .i64 xpl, .int .i64 xrt, .int .i64 xcnt, .int .i64 xver, .int .i64 arm, .bool cr, (.slice af nf cf)]) := Lib.hid (Y5.out.six (Sup.mk ngen nep nblk nlog nst npl nrt ncnt nver))
          obtain ⟨w6, hw6⟩ : ∃ W, W = w5.setRow g6 (Sup.mk ngen nep nblk nlog nst npl nrt ncnt nver).arr := ⟨_, rfl⟩
          rw [← hw6] at Y6
          have hw6' := hw6.symm
          have c10 : w6.cell? ⟨g8, 10, none⟩ = some (.bool cr) := by rw [cell_of_row _ _ _ _ _ _ Y6.out.b8]; rfl
          have c11 : w6.cell? ⟨g8, 11, none⟩ = some ((.slice af nf cf)) := by rw [cell_of_row _ _ _ _ _ _ Y6.out.b8]; rfl
          clear hw6
          have CZ : Hid (¬ ngen = 0) := Lib.hid (by have := GP.out; omega)
          cases cr with
          | true =>
            as_aux_lemma =>
              have OF := Lib.hid (ownFates_any ((.slice af nf cf)) fs w6 (FT.out w6 Y6.out.bl) FL.out)
              go_wp2_with (first | (refine wpList_store_row rfl 25 (.tmp 6) (.tmp 72) rfl g6 (Sup.mk ngen nep nblk nlog nst npl nrt ncnt nver).arr rfl rfl 25 (Sup.mk cgen cep cblk clog cst cpl crt ccnt cver).arr Y5.out.b6 size_super rfl (arr_one _) ?_; rw [hw6']))
              refine OF.out.mono ?_
              rintro _ w7 ⟨v7, rfl, o7, b7⟩
              have Y7 := Lib.hid (Y6.out.below b7)
              have CRS := Lib.hid (crash_x Y7.out (by rw [EF.out.2.1]; decide) o7)
              clear o7 b7 OF Y6 Y5 a0 a1 a2 a3 a4 a5 a6 a7 a8 c10 c11 hw6'
              go_wp2_with fail
              refine CRS.out.mono ?_
              rintro _ w7b ⟨⟨ic, rfl⟩, y7⟩
              have YT := Lib.hid y7
              obtain ⟨T, hT⟩ : ∃ T, T = crD E fs := ⟨_, rfl⟩
              rw [← hT] at YT
              have TF : Hid (T.down = false ∧ T.cache = [] ∧ T.n = 64 ∧ T.ws ≤ k + 1) := Lib.hid ⟨by rw [hT]; rfl, by rw [hT]; rfl, by rw [hT]; exact EF.out.2.2.1, by rw [hT]; exact EF.out.2.2.2⟩
              have TI : Hid (Iv T.med (Sup.mk ngen nep nblk nlog nst npl nrt ncnt nver)) := Lib.hid (by rw [hT]; show Iv (sets (fateAt fs) 0 E.cache E.med) (Sup.mk ngen nep nblk nlog nst npl nrt ncnt nver); rw [EF.out.2.1]; exact EI.out)
              clear y7 CRS Y7 hT EF EI
              obtain ⟨cvt, hcvt⟩ : ∃ v, v = Value.slice none 0 0 := ⟨_, rfl⟩
              rw [← hcvt] at YT
              clear hcvt
              have RDT : Hid (readU T = ((Sup.mk ngen nep nblk nlog nst npl nrt ncnt nver), (ngen % 2), 0) ∧ readU (newD 64 T.med) = ((Sup.mk ngen nep nblk nlog nst npl nrt ncnt nver), (ngen % 2), 0)) := Lib.hid (by
                have q1 := iv_read TI.out TF.out.2.1 TF.out.2.2.1
                have q2 := iv_read (D := newD 64 T.med) TI.out rfl rfl
                rw [if_neg (show ¬ (Sup.mk ngen nep nblk nlog nst npl nrt ncnt nver).gen = 0 from CZ.out)] at q1 q2
                exact ⟨q1, q2⟩)
              go_wp2_with fail
              refine (medium_x YT.out.dv).mono ?_
              rintro _ w8 ⟨am, nm, cm, rfl, o8, b8⟩
              have Y8 := Lib.hid (YT.out.below b8)
              have OFC := Lib.hid (of_ok _ T.med 64 w8 o8 TI.out.len (by decide) (by decide))
              obtain ⟨dc, hdc⟩ : ∃ n, n = w8.heap.size := ⟨_, rfl⟩
              have DLT : Hid (dm + 2 < dc ∧ w.heap.size ≤ dc) := Lib.hid (by have q1 := (YT.out.dv.foot_lt (dm + 2) (Or.inl rfl)).2; have q2 := b8.size; have q3 := YT.out.bl.size; omega)
              rw [← hdc] at OFC
              have HDC := Lib.hid hdc
              clear o8 b8 hdc YT
              go_wp2_with fail
              refine OFC.out.mono ?_
              rintro _ w9 ⟨rfl, b9, d9⟩
              have Y9 := Lib.hid (Y8.out.below (by have q := b9; rw [HDC.out] at q; exact q))
              have D9 := Lib.hid d9
              have RD1 : Hid (Calls Try.prog 13 #[.pointer (some ⟨dm + 2, 0, none⟩)] w9 fun e w' => e = .returned (.tuple #[.agg #[.int .i64 ngen, .int .i64 nep, .int .i64 nblk, .int .i64 nlog, .int .i64 nst, .int .i64 npl, .int .i64 nrt, .int .i64 ncnt, .int .i64 nver], .int .i64 (ngen % 2), .int .i64 0]) ∧ Wy w w' (dm + 2) dm (dm + 1) cvt (rdk T 2) g6 g8 g9 (Sup.mk ngen nep nblk nlog nst npl nrt ncnt nver) (Sup.mk ngen nep nblk nlog nst npl nrt ncnt nver) #[.int .i64 xgen, .int .i64 xep, .int .i64 xblk, .int .i64 xlog, .int .i64 xst, .int .i64 xpl, .int .i64 xrt, .int .i64 xcnt, .int .i64 xver, .int .i64 arm, .bool true, (.slice af nf cf)] ∧ Kept (fun k => k = dm + 2) w9 w') := Lib.hid (read_x Y9.out TF.out.1 ((Sup.mk ngen nep nblk nlog nst npl nrt ncnt nver), (ngen % 2), 0) RDT.out.1)
              clear b9 d9 Y8 OFC
              go_wp2_with fail
              refine RD1.out.mono ?_
              rintro _ w10 ⟨rfl, y10, k10⟩
              have Y10 := Lib.hid y10
              have D10 : Hid (Dv dc w10 (dc + 2) dc (dc + 1) (.slice none 0 0) (newD 64 T.med)) := Lib.hid (D9.out.kept k10 (fun k hk e => by have := (D9.out.foot_lt k hk).1; have := DLT.out.1; omega))
              obtain ⟨g14, hg14⟩ : ∃ g, g = w10.heap.size := ⟨_, rfl⟩
              have hg14' := hg14.symm
              have H14 := Lib.hid hg14
              clear y10 k10 RD1 Y9 D9 hg14
              have RD2 : Hid (Calls Try.prog 13 #[.pointer (some ⟨dc + 2, 0, none⟩)] (w10.alloc (.cells #[.int .i64 ngen, .int .i64 nep, .int .i64 nblk, .int .i64 nlog, .int .i64 nst, .int .i64 npl, .int .i64 nrt, .int .i64 ncnt, .int .i64 nver] 25)) fun e w' => e = .returned (.tuple #[.agg #[.int .i64 ngen, .int .i64 nep, .int .i64 nblk, .int .i64 nlog, .int .i64 nst, .int .i64 npl, .int .i64 nrt, .int .i64 ncnt, .int .i64 nver], .int .i64 (ngen % 2), .int .i64 0]) ∧ Wy w w' (dm + 2) dm (dm + 1) cvt (rdk T 2) g6 g8 g9 (Sup.mk ngen nep nblk nlog nst npl nrt ncnt nver) (Sup.mk ngen nep nblk nlog nst npl nrt ncnt nver) #[.int .i64 xgen, .int .i64 xep, .int .i64 xblk, .int .i64 xlog, .int .i64 xst, .int .i64 xpl, .int .i64 xrt, .int .i64 xcnt, .int .i64 xver, .int .i64 arm, .bool true, (.slice af nf cf)] ∧ w'.heap[g14]? = some (.cells (Sup.mk ngen nep nblk nlog nst npl nrt ncnt nver).arr 25 (0, 0))) := Lib.hid (by
                have q0 : Below w10.heap.size w10 (w10.alloc (.cells #[.int .i64 ngen, .int .i64 nep, .int .i64 nblk, .int .i64 nlog, .int .i64 nst, .int .i64 npl, .int .i64 nrt, .int .i64 ncnt, .int .i64 nver] 25)) := (Below.refl _ _).alloc (Nat.le_refl _) _
                have q1 := read_up (D10.out.below q0) rfl
                rw [RDT.out.2] at q1
                refine q1.mono ?_
                rintro e w' ⟨rfl, h1, h2⟩
                have q2 := (D10.out.foot_lt (dc + 2) (Or.inl rfl)).2
                refine ⟨rfl, (Y10.out.below q0).other (D10.out.below q0) (by have := DLT.out.1; omega) (by have := DLT.out.2; omega) h2, ?_⟩
                rw [H14.out, h2.block _ (by simp) (by omega)]
                exact heap_alloc_new _ _)
              go_wp2_with fail
              refine RD2.out.mono ?_
              rintro _ w11 ⟨rfl, y11, h14⟩
              have Y11 := Lib.hid (And.intro y11 h14)
              have AL : ∀ ob, Below w11.heap.size w11 (w11.alloc ob) := fun ob => (Below.refl _ _).alloc (Nat.le_refl _) ob
              have p0 : ∀ ob, (w11.alloc ob).cell? ⟨g14, 0, none⟩ = some (.int .i64 ngen) := fun ob => (sup_cells (s := (Sup.mk ngen nep nblk nlog nst npl nrt ncnt nver)) (((AL ob).block _ (lt_of_heap Y11.out.2)).trans Y11.out.2)).1
              have p1 : ∀ ob, (w11.alloc ob).cell? ⟨g14, 1, none⟩ = some (.int .i64 nep) := fun ob => (sup_cells (s := (Sup.mk ngen nep nblk nlog nst npl nrt ncnt nver)) (((AL ob).block _ (lt_of_heap Y11.out.2)).trans Y11.out.2)).2.1
              have p2 : ∀ ob, (w11.alloc ob).cell? ⟨g14, 2, none⟩ = some (.int .i64 nblk) := fun ob => (sup_cells (s := (Sup.mk ngen nep nblk nlog nst npl nrt ncnt nver)) (((AL ob).block _ (lt_of_heap Y11.out.2)).trans Y11.out.2)).2.2.1
              have p3 : ∀ ob, (w11.alloc ob).cell? ⟨g14, 3, none⟩ = some (.int .i64 nlog) := fun ob => (sup_cells (s := (Sup.mk ngen nep nblk nlog nst npl nrt ncnt nver)) (((AL ob).block _ (lt_of_heap Y11.out.2)).trans Y11.out.2)).2.2.2.1
              have p4 : ∀ ob, (w11.alloc ob).cell? ⟨g14, 4, none⟩ = some (.int .i64 nst) := fun ob => (sup_cells (s := (Sup.mk ngen nep nblk nlog nst npl nrt ncnt nver)) (((AL ob).block _ (lt_of_heap Y11.out.2)).trans Y11.out.2)).2.2.2.2.1
              have p5 : ∀ ob, (w11.alloc ob).cell? ⟨g14, 5, none⟩ = some (.int .i64 npl) := fun ob => (sup_cells (s := (Sup.mk ngen nep nblk nlog nst npl nrt ncnt nver)) (((AL ob).block _ (lt_of_heap Y11.out.2)).trans Y11.out.2)).2.2.2.2.2.1
              have p6 : ∀ ob, (w11.alloc ob).cell? ⟨g14, 6, none⟩ = some (.int .i64 nrt) := fun ob => (sup_cells (s := (Sup.mk ngen nep nblk nlog nst npl nrt ncnt nver)) (((AL ob).block _ (lt_of_heap Y11.out.2)).trans Y11.out.2)).2.2.2.2.2.2.1
              have p7 : ∀ ob, (w11.alloc ob).cell? ⟨g14, 7, none⟩ = some (.int .i64 ncnt) := fun ob => (sup_cells (s := (Sup.mk ngen nep nblk nlog nst npl nrt ncnt nver)) (((AL ob).block _ (lt_of_heap Y11.out.2)).trans Y11.out.2)).2.2.2.2.2.2.2.1
              have p8 : ∀ ob, (w11.alloc ob).cell? ⟨g14, 8, none⟩ = some (.int .i64 nver) := fun ob => (sup_cells (s := (Sup.mk ngen nep nblk nlog nst npl nrt ncnt nver)) (((AL ob).block _ (lt_of_heap Y11.out.2)).trans Y11.out.2)).2.2.2.2.2.2.2.2
              have q0 : ∀ ob, (w11.alloc ob).cell? ⟨g6, 0, none⟩ = some (.int .i64 ngen) := fun ob => (sup_cells (s := (Sup.mk ngen nep nblk nlog nst npl nrt ncnt nver)) (((AL ob).block _ (lt_of_heap Y11.out.1.b6)).trans Y11.out.1.b6)).1
              have q1 : ∀ ob, (w11.alloc ob).cell? ⟨g6, 1, none⟩ = some (.int .i64 nep) := fun ob => (sup_cells (s := (Sup.mk ngen nep nblk nlog nst npl nrt ncnt nver)) (((AL ob).block _ (lt_of_heap Y11.out.1.b6)).trans Y11.out.1.b6)).2.1
              have q2 : ∀ ob, (w11.alloc ob).cell? ⟨g6, 2, none⟩ = some (.int .i64 nblk) := fun ob => (sup_cells (s := (Sup.mk ngen nep nblk nlog nst npl nrt ncnt nver)) (((AL ob).block _ (lt_of_heap Y11.out.1.b6)).trans Y11.out.1.b6)).2.2.1
              have q3 : ∀ ob, (w11.alloc ob).cell? ⟨g6, 3, none⟩ = some (.int .i64 nlog) := fun ob => (sup_cells (s := (Sup.mk ngen nep nblk nlog nst npl nrt ncnt nver)) (((AL ob).block _ (lt_of_heap Y11.out.1.b6)).trans Y11.out.1.b6)).2.2.2.1
              have q4 : ∀ ob, (w11.alloc ob).cell? ⟨g6, 4, none⟩ = some (.int .i64 nst) := fun ob => (sup_cells (s := (Sup.mk ngen nep nblk nlog nst npl nrt ncnt nver)) (((AL ob).block _ (lt_of_heap Y11.out.1.b6)).trans Y11.out.1.b6)).2.2.2.2.1
              have q5 : ∀ ob, (w11.alloc ob).cell? ⟨g6, 5, none⟩ = some (.int .i64 npl) := fun ob => (sup_cells (s := (Sup.mk ngen nep nblk nlog nst npl nrt ncnt nver)) (((AL ob).block _ (lt_of_heap Y11.out.1.b6)).trans Y11.out.1.b6)).2.2.2.2.2.1
              have q6 : ∀ ob, (w11.alloc ob).cell? ⟨g6, 6, none⟩ = some (.int .i64 nrt) := fun ob => (sup_cells (s := (Sup.mk ngen nep nblk nlog nst npl nrt ncnt nver)) (((AL ob).block _ (lt_of_heap Y11.out.1.b6)).trans Y11.out.1.b6)).2.2.2.2.2.2.1
              have q7 : ∀ ob, (w11.alloc ob).cell? ⟨g6, 7, none⟩ = some (.int .i64 ncnt) := fun ob => (sup_cells (s := (Sup.mk ngen nep nblk nlog nst npl nrt ncnt nver)) (((AL ob).block _ (lt_of_heap Y11.out.1.b6)).trans Y11.out.1.b6)).2.2.2.2.2.2.2.1
              have q8 : ∀ ob, (w11.alloc ob).cell? ⟨g6, 8, none⟩ = some (.int .i64 nver) := fun ob => (sup_cells (s := (Sup.mk ngen nep nblk nlog nst npl nrt ncnt nver)) (((AL ob).block _ (lt_of_heap Y11.out.1.b6)).trans Y11.out.1.b6)).2.2.2.2.2.2.2.2
              have r0 : ∀ ob, (w11.alloc ob).cell? ⟨g9, 0, none⟩ = some (.int .i64 ngen) := fun ob => (sup_cells (s := (Sup.mk ngen nep nblk nlog nst npl nrt ncnt nver)) (((AL ob).block _ (lt_of_heap Y11.out.1.b9)).trans Y11.out.1.b9)).1
              have r1 : ∀ ob, (w11.alloc ob).cell? ⟨g9, 1, none⟩ = some (.int .i64 nep) := fun ob => (sup_cells (s := (Sup.mk ngen nep nblk nlog nst npl nrt ncnt nver)) (((AL ob).block _ (lt_of_heap Y11.out.1.b9)).trans Y11.out.1.b9)).2.1
              have r2 : ∀ ob, (w11.alloc ob).cell? ⟨g9, 2, none⟩ = some (.int .i64 nblk) := fun ob => (sup_cells (s := (Sup.mk ngen nep nblk nlog nst npl nrt ncnt nver)) (((AL ob).block _ (lt_of_heap Y11.out.1.b9)).trans Y11.out.1.b9)).2.2.1
              have r3 : ∀ ob, (w11.alloc ob).cell? ⟨g9, 3, none⟩ = some (.int .i64 nlog) := fun ob => (sup_cells (s := (Sup.mk ngen nep nblk nlog nst npl nrt ncnt nver)) (((AL ob).block _ (lt_of_heap Y11.out.1.b9)).trans Y11.out.1.b9)).2.2.2.1
              have r4 : ∀ ob, (w11.alloc ob).cell? ⟨g9, 4, none⟩ = some (.int .i64 nst) := fun ob => (sup_cells (s := (Sup.mk ngen nep nblk nlog nst npl nrt ncnt nver)) (((AL ob).block _ (lt_of_heap Y11.out.1.b9)).trans Y11.out.1.b9)).2.2.2.2.1
              have r5 : ∀ ob, (w11.alloc ob).cell? ⟨g9, 5, none⟩ = some (.int .i64 npl) := fun ob => (sup_cells (s := (Sup.mk ngen nep nblk nlog nst npl nrt ncnt nver)) (((AL ob).block _ (lt_of_heap Y11.out.1.b9)).trans Y11.out.1.b9)).2.2.2.2.2.1
              have r6 : ∀ ob, (w11.alloc ob).cell? ⟨g9, 6, none⟩ = some (.int .i64 nrt) := fun ob => (sup_cells (s := (Sup.mk ngen nep nblk nlog nst npl nrt ncnt nver)) (((AL ob).block _ (lt_of_heap Y11.out.1.b9)).trans Y11.out.1.b9)).2.2.2.2.2.2.1
              have r7 : ∀ ob, (w11.alloc ob).cell? ⟨g9, 7, none⟩ = some (.int .i64 ncnt) := fun ob => (sup_cells (s := (Sup.mk ngen nep nblk nlog nst npl nrt ncnt nver)) (((AL ob).block _ (lt_of_heap Y11.out.1.b9)).trans Y11.out.1.b9)).2.2.2.2.2.2.2.1
              have r8 : ∀ ob, (w11.alloc ob).cell? ⟨g9, 8, none⟩ = some (.int .i64 nver) := fun ob => (sup_cells (s := (Sup.mk ngen nep nblk nlog nst npl nrt ncnt nver)) (((AL ob).block _ (lt_of_heap Y11.out.1.b9)).trans Y11.out.1.b9)).2.2.2.2.2.2.2.2
              have YF : Hid (∀ ob, Wy w (w11.alloc ob) (dm + 2) dm (dm + 1) cvt (rdk T 2) g6 g8 g9 (Sup.mk ngen nep nblk nlog nst npl nrt ncnt nver) (Sup.mk ngen nep nblk nlog nst npl nrt ncnt nver) #[.int .i64 xgen, .int .i64 xep, .int .i64 xblk, .int .i64 xlog, .int .i64 xst, .int .i64 xpl, .int .i64 xrt, .int .i64 xcnt, .int .i64 xver, .int .i64 arm, .bool true, (.slice af nf cf)]) := Lib.hid (fun ob => Y11.out.1.below (AL ob))
              clear y11 h14 AL RD2 Y10 D10
              have rem : ngen.tmod 2 = ngen % 2 := Int.tmod_eq_emod_of_nonneg (by have := GP.out; omega)
              clear Y11
              go_wp2_with (first | (refine wpList_store_row rfl 25 (.tmp 6) (.tmp 149) rfl g6 (Sup.mk ngen nep nblk nlog nst npl nrt ncnt nver).arr rfl rfl 25 (Sup.mk ngen nep nblk nlog nst npl nrt ncnt nver).arr (YF.out _).b6 size_super rfl (arr_one _) ?_))
              go_roundg (n - (k + 1))
              case measure => have := G.out; omega
              case rel => exact ⟨k + 1, cvt, rdk T 2, (Sup.mk ngen nep nblk nlog nst npl nrt ncnt nver), by omega, rfl, by go_num, ((YF.out _).six _).dv, ((YF.out _).six _).b6, ((YF.out _).six _).bl, LO.out, TF.out.1, TF.out.2.1, TF.out.2.2.1, TI.out, by have := GK.out; have := GP.out; show ngen ≤ ((k + 1 : Nat) : Int); omega, TF.out.2.2.2⟩
          | false =>
            as_aux_lemma =>
              have DW := Lib.hid (down_any Y6.out.dv)
              rw [EF.out.1] at DW
              go_wp2_with (first | (refine wpList_store_row rfl 25 (.tmp 6) (.tmp 72) rfl g6 (Sup.mk ngen nep nblk nlog nst npl nrt ncnt nver).arr rfl rfl 25 (Sup.mk cgen cep cblk clog cst cpl crt ccnt cver).arr Y5.out.b6 size_super rfl (arr_one _) ?_; rw [hw6']))
              refine DW.out.mono ?_
              rintro _ w7 ⟨rfl, e7⟩
              obtain rfl := e7.symm
              have YT := Lib.hid Y6.out
              obtain ⟨T, hT⟩ : ∃ T, T = E := ⟨_, rfl⟩
              rw [← hT] at YT EF EI
              have TF := EF
              have TI := EI
              obtain ⟨cvt, hcvt⟩ : ∃ v, v = cv5 := ⟨_, rfl⟩
              rw [← hcvt] at YT
              clear DW Y6 Y5 a0 a1 a2 a3 a4 a5 a6 a7 a8 c10 c11 hw6' hT EF EI e7 hcvt
              have RDT : Hid (readU T = ((Sup.mk ngen nep nblk nlog nst npl nrt ncnt nver), (ngen % 2), 0) ∧ readU (newD 64 T.med) = ((Sup.mk ngen nep nblk nlog nst npl nrt ncnt nver), (ngen % 2), 0)) := Lib.hid (by
                have q1 := iv_read TI.out TF.out.2.1 TF.out.2.2.1
                have q2 := iv_read (D := newD 64 T.med) TI.out rfl rfl
                rw [if_neg (show ¬ (Sup.mk ngen nep nblk nlog nst npl nrt ncnt nver).gen = 0 from CZ.out)] at q1 q2
                exact ⟨q1, q2⟩)
              go_wp2_with fail
              refine (medium_x YT.out.dv).mono ?_
              rintro _ w8 ⟨am, nm, cm, rfl, o8, b8⟩
              have Y8 := Lib.hid (YT.out.below b8)
              have OFC := Lib.hid (of_ok _ T.med 64 w8 o8 TI.out.len (by decide) (by decide))
              obtain ⟨dc, hdc⟩ : ∃ n, n = w8.heap.size := ⟨_, rfl⟩
              have DLT : Hid (dm + 2 < dc ∧ w.heap.size ≤ dc) := Lib.hid (by have q1 := (YT.out.dv.foot_lt (dm + 2) (Or.inl rfl)).2; have q2 := b8.size; have q3 := YT.out.bl.size; omega)
              rw [← hdc] at OFC
              have HDC := Lib.hid hdc
              clear o8 b8 hdc YT
              go_wp2_with fail
              refine OFC.out.mono ?_
              rintro _ w9 ⟨rfl, b9, d9⟩
              have Y9 := Lib.hid (Y8.out.below (by have q := b9; rw [HDC.out] at q; exact q))
              have D9 := Lib.hid d9
              have RD1 : Hid (Calls Try.prog 13 #[.pointer (some ⟨dm + 2, 0, none⟩)] w9 fun e w' => e = .returned (.tuple #[.agg #[.int .i64 ngen, .int .i64 nep, .int .i64 nblk, .int .i64 nlog, .int .i64 nst, .int .i64 npl, .int .i64 nrt, .int .i64 ncnt, .int .i64 nver], .int .i64 (ngen % 2), .int .i64 0]) ∧ Wy w w' (dm + 2) dm (dm + 1) cvt (rdk T 2) g6 g8 g9 (Sup.mk ngen nep nblk nlog nst npl nrt ncnt nver) (Sup.mk ngen nep nblk nlog nst npl nrt ncnt nver) #[.int .i64 xgen, .int .i64 xep, .int .i64 xblk, .int .i64 xlog, .int .i64 xst, .int .i64 xpl, .int .i64 xrt, .int .i64 xcnt, .int .i64 xver, .int .i64 arm, .bool false, (.slice af nf cf)] ∧ Kept (fun k => k = dm + 2) w9 w') := Lib.hid (read_x Y9.out TF.out.1 ((Sup.mk ngen nep nblk nlog nst npl nrt ncnt nver), (ngen % 2), 0) RDT.out.1)
              clear b9 d9 Y8 OFC
              go_wp2_with fail
              refine RD1.out.mono ?_
              rintro _ w10 ⟨rfl, y10, k10⟩
              have Y10 := Lib.hid y10
              have D10 : Hid (Dv dc w10 (dc + 2) dc (dc + 1) (.slice none 0 0) (newD 64 T.med)) := Lib.hid (D9.out.kept k10 (fun k hk e => by have := (D9.out.foot_lt k hk).1; have := DLT.out.1; omega))
              obtain ⟨g14, hg14⟩ : ∃ g, g = w10.heap.size := ⟨_, rfl⟩
              have hg14' := hg14.symm
              have H14 := Lib.hid hg14
              clear y10 k10 RD1 Y9 D9 hg14
              have RD2 : Hid (Calls Try.prog 13 #[.pointer (some ⟨dc + 2, 0, none⟩)] (w10.alloc (.cells #[.int .i64 ngen, .int .i64 nep, .int .i64 nblk, .int .i64 nlog, .int .i64 nst, .int .i64 npl, .int .i64 nrt, .int .i64 ncnt, .int .i64 nver] 25)) fun e w' => e = .returned (.tuple #[.agg #[.int .i64 ngen, .int .i64 nep, .int .i64 nblk, .int .i64 nlog, .int .i64 nst, .int .i64 npl, .int .i64 nrt, .int .i64 ncnt, .int .i64 nver], .int .i64 (ngen % 2), .int .i64 0]) ∧ Wy w w' (dm + 2) dm (dm + 1) cvt (rdk T 2) g6 g8 g9 (Sup.mk ngen nep nblk nlog nst npl nrt ncnt nver) (Sup.mk ngen nep nblk nlog nst npl nrt ncnt nver) #[.int .i64 xgen, .int .i64 xep, .int .i64 xblk, .int .i64 xlog, .int .i64 xst, .int .i64 xpl, .int .i64 xrt, .int .i64 xcnt, .int .i64 xver, .int .i64 arm, .bool false, (.slice af nf cf)] ∧ w'.heap[g14]? = some (.cells (Sup.mk ngen nep nblk nlog nst npl nrt ncnt nver).arr 25 (0, 0))) := Lib.hid (by
                have q0 : Below w10.heap.size w10 (w10.alloc (.cells #[.int .i64 ngen, .int .i64 nep, .int .i64 nblk, .int .i64 nlog, .int .i64 nst, .int .i64 npl, .int .i64 nrt, .int .i64 ncnt, .int .i64 nver] 25)) := (Below.refl _ _).alloc (Nat.le_refl _) _
                have q1 := read_up (D10.out.below q0) rfl
                rw [RDT.out.2] at q1
                refine q1.mono ?_
                rintro e w' ⟨rfl, h1, h2⟩
                have q2 := (D10.out.foot_lt (dc + 2) (Or.inl rfl)).2
                refine ⟨rfl, (Y10.out.below q0).other (D10.out.below q0) (by have := DLT.out.1; omega) (by have := DLT.out.2; omega) h2, ?_⟩
                rw [H14.out, h2.block _ (by simp) (by omega)]
                exact heap_alloc_new _ _)
              go_wp2_with fail
              refine RD2.out.mono ?_
              rintro _ w11 ⟨rfl, y11, h14⟩
              have Y11 := Lib.hid (And.intro y11 h14)
              have AL : ∀ ob, Below w11.heap.size w11 (w11.alloc ob) := fun ob => (Below.refl _ _).alloc (Nat.le_refl _) ob
              have p0 : ∀ ob, (w11.alloc ob).cell? ⟨g14, 0, none⟩ = some (.int .i64 ngen) := fun ob => (sup_cells (s := (Sup.mk ngen nep nblk nlog nst npl nrt ncnt nver)) (((AL ob).block _ (lt_of_heap Y11.out.2)).trans Y11.out.2)).1
              have p1 : ∀ ob, (w11.alloc ob).cell? ⟨g14, 1, none⟩ = some (.int .i64 nep) := fun ob => (sup_cells (s := (Sup.mk ngen nep nblk nlog nst npl nrt ncnt nver)) (((AL ob).block _ (lt_of_heap Y11.out.2)).trans Y11.out.2)).2.1
              have p2 : ∀ ob, (w11.alloc ob).cell? ⟨g14, 2, none⟩ = some (.int .i64 nblk) := fun ob => (sup_cells (s := (Sup.mk ngen nep nblk nlog nst npl nrt ncnt nver)) (((AL ob).block _ (lt_of_heap Y11.out.2)).trans Y11.out.2)).2.2.1
              have p3 : ∀ ob, (w11.alloc ob).cell? ⟨g14, 3, none⟩ = some (.int .i64 nlog) := fun ob => (sup_cells (s := (Sup.mk ngen nep nblk nlog nst npl nrt ncnt nver)) (((AL ob).block _ (lt_of_heap Y11.out.2)).trans Y11.out.2)).2.2.2.1
              have p4 : ∀ ob, (w11.alloc ob).cell? ⟨g14, 4, none⟩ = some (.int .i64 nst) := fun ob => (sup_cells (s := (Sup.mk ngen nep nblk nlog nst npl nrt ncnt nver)) (((AL ob).block _ (lt_of_heap Y11.out.2)).trans Y11.out.2)).2.2.2.2.1
              have p5 : ∀ ob, (w11.alloc ob).cell? ⟨g14, 5, none⟩ = some (.int .i64 npl) := fun ob => (sup_cells (s := (Sup.mk ngen nep nblk nlog nst npl nrt ncnt nver)) (((AL ob).block _ (lt_of_heap Y11.out.2)).trans Y11.out.2)).2.2.2.2.2.1
              have p6 : ∀ ob, (w11.alloc ob).cell? ⟨g14, 6, none⟩ = some (.int .i64 nrt) := fun ob => (sup_cells (s := (Sup.mk ngen nep nblk nlog nst npl nrt ncnt nver)) (((AL ob).block _ (lt_of_heap Y11.out.2)).trans Y11.out.2)).2.2.2.2.2.2.1
              have p7 : ∀ ob, (w11.alloc ob).cell? ⟨g14, 7, none⟩ = some (.int .i64 ncnt) := fun ob => (sup_cells (s := (Sup.mk ngen nep nblk nlog nst npl nrt ncnt nver)) (((AL ob).block _ (lt_of_heap Y11.out.2)).trans Y11.out.2)).2.2.2.2.2.2.2.1
              have p8 : ∀ ob, (w11.alloc ob).cell? ⟨g14, 8, none⟩ = some (.int .i64 nver) := fun ob => (sup_cells (s := (Sup.mk ngen nep nblk nlog nst npl nrt ncnt nver)) (((AL ob).block _ (lt_of_heap Y11.out.2)).trans Y11.out.2)).2.2.2.2.2.2.2.2
              have q0 : ∀ ob, (w11.alloc ob).cell? ⟨g6, 0, none⟩ = some (.int .i64 ngen) := fun ob => (sup_cells (s := (Sup.mk ngen nep nblk nlog nst npl nrt ncnt nver)) (((AL ob).block _ (lt_of_heap Y11.out.1.b6)).trans Y11.out.1.b6)).1
              have q1 : ∀ ob, (w11.alloc ob).cell? ⟨g6, 1, none⟩ = some (.int .i64 nep) := fun ob => (sup_cells (s := (Sup.mk ngen nep nblk nlog nst npl nrt ncnt nver)) (((AL ob).block _ (lt_of_heap Y11.out.1.b6)).trans Y11.out.1.b6)).2.1
              have q2 : ∀ ob, (w11.alloc ob).cell? ⟨g6, 2, none⟩ = some (.int .i64 nblk) := fun ob => (sup_cells (s := (Sup.mk ngen nep nblk nlog nst npl nrt ncnt nver)) (((AL ob).block _ (lt_of_heap Y11.out.1.b6)).trans Y11.out.1.b6)).2.2.1
              have q3 : ∀ ob, (w11.alloc ob).cell? ⟨g6, 3, none⟩ = some (.int .i64 nlog) := fun ob => (sup_cells (s := (Sup.mk ngen nep nblk nlog nst npl nrt ncnt nver)) (((AL ob).block _ (lt_of_heap Y11.out.1.b6)).trans Y11.out.1.b6)).2.2.2.1
              have q4 : ∀ ob, (w11.alloc ob).cell? ⟨g6, 4, none⟩ = some (.int .i64 nst) := fun ob => (sup_cells (s := (Sup.mk ngen nep nblk nlog nst npl nrt ncnt nver)) (((AL ob).block _ (lt_of_heap Y11.out.1.b6)).trans Y11.out.1.b6)).2.2.2.2.1
              have q5 : ∀ ob, (w11.alloc ob).cell? ⟨g6, 5, none⟩ = some (.int .i64 npl) := fun ob => (sup_cells (s := (Sup.mk ngen nep nblk nlog nst npl nrt ncnt nver)) (((AL ob).block _ (lt_of_heap Y11.out.1.b6)).trans Y11.out.1.b6)).2.2.2.2.2.1
              have q6 : ∀ ob, (w11.alloc ob).cell? ⟨g6, 6, none⟩ = some (.int .i64 nrt) := fun ob => (sup_cells (s := (Sup.mk ngen nep nblk nlog nst npl nrt ncnt nver)) (((AL ob).block _ (lt_of_heap Y11.out.1.b6)).trans Y11.out.1.b6)).2.2.2.2.2.2.1
              have q7 : ∀ ob, (w11.alloc ob).cell? ⟨g6, 7, none⟩ = some (.int .i64 ncnt) := fun ob => (sup_cells (s := (Sup.mk ngen nep nblk nlog nst npl nrt ncnt nver)) (((AL ob).block _ (lt_of_heap Y11.out.1.b6)).trans Y11.out.1.b6)).2.2.2.2.2.2.2.1
              have q8 : ∀ ob, (w11.alloc ob).cell? ⟨g6, 8, none⟩ = some (.int .i64 nver) := fun ob => (sup_cells (s := (Sup.mk ngen nep nblk nlog nst npl nrt ncnt nver)) (((AL ob).block _ (lt_of_heap Y11.out.1.b6)).trans Y11.out.1.b6)).2.2.2.2.2.2.2.2
              have r0 : ∀ ob, (w11.alloc ob).cell? ⟨g9, 0, none⟩ = some (.int .i64 ngen) := fun ob => (sup_cells (s := (Sup.mk ngen nep nblk nlog nst npl nrt ncnt nver)) (((AL ob).block _ (lt_of_heap Y11.out.1.b9)).trans Y11.out.1.b9)).1
              have r1 : ∀ ob, (w11.alloc ob).cell? ⟨g9, 1, none⟩ = some (.int .i64 nep) := fun ob => (sup_cells (s := (Sup.mk ngen nep nblk nlog nst npl nrt ncnt nver)) (((AL ob).block _ (lt_of_heap Y11.out.1.b9)).trans Y11.out.1.b9)).2.1
              have r2 : ∀ ob, (w11.alloc ob).cell? ⟨g9, 2, none⟩ = some (.int .i64 nblk) := fun ob => (sup_cells (s := (Sup.mk ngen nep nblk nlog nst npl nrt ncnt nver)) (((AL ob).block _ (lt_of_heap Y11.out.1.b9)).trans Y11.out.1.b9)).2.2.1
              have r3 : ∀ ob, (w11.alloc ob).cell? ⟨g9, 3, none⟩ = some (.int .i64 nlog) := fun ob => (sup_cells (s := (Sup.mk ngen nep nblk nlog nst npl nrt ncnt nver)) (((AL ob).block _ (lt_of_heap Y11.out.1.b9)).trans Y11.out.1.b9)).2.2.2.1
              have r4 : ∀ ob, (w11.alloc ob).cell? ⟨g9, 4, none⟩ = some (.int .i64 nst) := fun ob => (sup_cells (s := (Sup.mk ngen nep nblk nlog nst npl nrt ncnt nver)) (((AL ob).block _ (lt_of_heap Y11.out.1.b9)).trans Y11.out.1.b9)).2.2.2.2.1
              have r5 : ∀ ob, (w11.alloc ob).cell? ⟨g9, 5, none⟩ = some (.int .i64 npl) := fun ob => (sup_cells (s := (Sup.mk ngen nep nblk nlog nst npl nrt ncnt nver)) (((AL ob).block _ (lt_of_heap Y11.out.1.b9)).trans Y11.out.1.b9)).2.2.2.2.2.1
              have r6 : ∀ ob, (w11.alloc ob).cell? ⟨g9, 6, none⟩ = some (.int .i64 nrt) := fun ob => (sup_cells (s := (Sup.mk ngen nep nblk nlog nst npl nrt ncnt nver)) (((AL ob).block _ (lt_of_heap Y11.out.1.b9)).trans Y11.out.1.b9)).2.2.2.2.2.2.1
              have r7 : ∀ ob, (w11.alloc ob).cell? ⟨g9, 7, none⟩ = some (.int .i64 ncnt) := fun ob => (sup_cells (s := (Sup.mk ngen nep nblk nlog nst npl nrt ncnt nver)) (((AL ob).block _ (lt_of_heap Y11.out.1.b9)).trans Y11.out.1.b9)).2.2.2.2.2.2.2.1
              have r8 : ∀ ob, (w11.alloc ob).cell? ⟨g9, 8, none⟩ = some (.int .i64 nver) := fun ob => (sup_cells (s := (Sup.mk ngen nep nblk nlog nst npl nrt ncnt nver)) (((AL ob).block _ (lt_of_heap Y11.out.1.b9)).trans Y11.out.1.b9)).2.2.2.2.2.2.2.2
              have YF : Hid (∀ ob, Wy w (w11.alloc ob) (dm + 2) dm (dm + 1) cvt (rdk T 2) g6 g8 g9 (Sup.mk ngen nep nblk nlog nst npl nrt ncnt nver) (Sup.mk ngen nep nblk nlog nst npl nrt ncnt nver) #[.int .i64 xgen, .int .i64 xep, .int .i64 xblk, .int .i64 xlog, .int .i64 xst, .int .i64 xpl, .int .i64 xrt, .int .i64 xcnt, .int .i64 xver, .int .i64 arm, .bool false, (.slice af nf cf)]) := Lib.hid (fun ob => Y11.out.1.below (AL ob))
              clear y11 h14 AL RD2 Y10 D10
              have rem : ngen.tmod 2 = ngen % 2 := Int.tmod_eq_emod_of_nonneg (by have := GP.out; omega)
              clear Y11
              go_wp2_with (first | (refine wpList_store_row rfl 25 (.tmp 6) (.tmp 149) rfl g6 (Sup.mk ngen nep nblk nlog nst npl nrt ncnt nver).arr rfl rfl 25 (Sup.mk ngen nep nblk nlog nst npl nrt ncnt nver).arr (YF.out _).b6 size_super rfl (arr_one _) ?_))
              go_roundg (n - (k + 1))
              case measure => have := G.out; omega
              case rel => exact ⟨k + 1, cvt, rdk T 2, (Sup.mk ngen nep nblk nlog nst npl nrt ncnt nver), by omega, rfl, by go_num, ((YF.out _).six _).dv, ((YF.out _).six _).b6, ((YF.out _).six _).bl, LO.out, TF.out.1, TF.out.2.1, TF.out.2.2.1, TI.out, by have := GK.out; have := GP.out; show ngen ≤ ((k + 1 : Nat) : Int); omega, TF.out.2.2.2⟩
        · have WX := Lib.hid (write_x Y.out (Sup.mk ngen nep nblk nlog nst npl nrt ncnt nver) (by have := DF.out.2.2.2; have := KN.out; omega) DF.out.2.1)
          rw [e6] at WX
          obtain ⟨E, hE⟩ : ∃ E, E = (wrA DD (Sup.mk ngen nep nblk nlog nst npl nrt ncnt nver)).1 := ⟨_, rfl⟩
          rw [← hE] at WX l6 n6 ws6 iv6
          have EF : Hid (E.cache.length ≤ 1 ∧ E.n = 64 ∧ E.ws ≤ k + 1) := Lib.hid ⟨l6, n6, by have := DF.out.2.2.2; omega⟩
          have EI := Lib.hid (iv6 fs)
          clear e6 l6 n6 ws6 iv6 hE
          go_wp2_with fail
          refine WX.out.mono ?_
          rintro _ w5 ⟨cv5, rfl, y5⟩
          have Y5 := Lib.hid y5
          clear y5 WX Y
          have c11 : w5.cell? ⟨g8, 11, none⟩ = some ((.slice af nf cf)) := by rw [cell_of_row _ _ _ _ _ _ Y5.out.b8]; rfl
          have OF := Lib.hid (ownFates_any ((.slice af nf cf)) fs w5 (FT.out w5 Y5.out.bl) FL.out)
          go_wp2_with fail
          refine OF.out.mono ?_
          rintro _ w7 ⟨v7, rfl, o7, b7⟩
          have Y7 := Lib.hid (Y5.out.below b7)
          have CRS := Lib.hid (crash_x Y7.out EF.out.1 o7)
          clear o7 b7 OF Y5 c11
          go_wp2_with fail
          refine CRS.out.mono ?_
          rintro _ w7b ⟨⟨ic, rfl⟩, y7⟩
          have YT := Lib.hid y7
          obtain ⟨T, hT⟩ : ∃ T, T = crD E fs := ⟨_, rfl⟩
          rw [← hT] at YT EI
          have TF : Hid (T.down = false ∧ T.cache = [] ∧ T.n = 64 ∧ T.ws ≤ k + 1) := Lib.hid ⟨by rw [hT]; rfl, by rw [hT]; rfl, by rw [hT]; exact EF.out.2.1, by rw [hT]; exact EF.out.2.2⟩
          clear y7 CRS Y7 hT EF
          obtain ⟨cvt, hcvt⟩ : ∃ v, v = Value.slice none 0 0 := ⟨_, rfl⟩
          rw [← hcvt] at YT
          clear hcvt
          rcases EI.out with iv | iv
          · have TI := Lib.hid iv
            clear iv EI
            by_cases hz : cgen = 0
            · as_aux_lemma =>
                have CZ := Lib.hid hz
                clear hz
                have RDT : Hid (readU T = (zeroS, 0, 5) ∧ readU (newD 64 T.med) = (zeroS, 0, 5)) := Lib.hid (by
                  have q1 := iv_read TI.out TF.out.2.1 TF.out.2.2.1
                  have q2 := iv_read (D := newD 64 T.med) TI.out rfl rfl
                  rw [if_pos (show (Sup.mk cgen cep cblk clog cst cpl crt ccnt cver).gen = 0 from CZ.out)] at q1 q2
                  exact ⟨q1, q2⟩)
                go_wp2_with fail
                refine (medium_x YT.out.dv).mono ?_
                rintro _ w8 ⟨am, nm, cm, rfl, o8, b8⟩
                have Y8 := Lib.hid (YT.out.below b8)
                have OFC := Lib.hid (of_ok _ T.med 64 w8 o8 TI.out.len (by decide) (by decide))
                obtain ⟨dc, hdc⟩ : ∃ n, n = w8.heap.size := ⟨_, rfl⟩
                have DLT : Hid (dm + 2 < dc ∧ w.heap.size ≤ dc) := Lib.hid (by have q1 := (YT.out.dv.foot_lt (dm + 2) (Or.inl rfl)).2; have q2 := b8.size; have q3 := YT.out.bl.size; omega)
                rw [← hdc] at OFC
                have HDC := Lib.hid hdc
                clear o8 b8 hdc YT
                go_wp2_with fail
                refine OFC.out.mono ?_
                rintro _ w9 ⟨rfl, b9, d9⟩
                have Y9 := Lib.hid (Y8.out.below (by have q := b9; rw [HDC.out] at q; exact q))
                have D9 := Lib.hid d9
                have RD1 : Hid (Calls Try.prog 13 #[.pointer (some ⟨dm + 2, 0, none⟩)] w9 fun e w' => e = .returned (.tuple #[.agg #[.int .i64 0, .int .i64 0, .int .i64 0, .int .i64 0, .int .i64 0, .int .i64 0, .int .i64 0, .int .i64 0, .int .i64 0], .int .i64 0, .int .i64 5]) ∧ Wy w w' (dm + 2) dm (dm + 1) cvt (rdk T 2) g6 g8 g9 (Sup.mk cgen cep cblk clog cst cpl crt ccnt cver) (Sup.mk ngen nep nblk nlog nst npl nrt ncnt nver) #[.int .i64 xgen, .int .i64 xep, .int .i64 xblk, .int .i64 xlog, .int .i64 xst, .int .i64 xpl, .int .i64 xrt, .int .i64 xcnt, .int .i64 xver, .int .i64 arm, .bool cr, (.slice af nf cf)] ∧ Kept (fun k => k = dm + 2) w9 w') := Lib.hid (read_x Y9.out TF.out.1 (zeroS, 0, 5) RDT.out.1)
                clear b9 d9 Y8 OFC
                go_wp2_with fail
                refine RD1.out.mono ?_
                rintro _ w10 ⟨rfl, y10, k10⟩
                have Y10 := Lib.hid y10
                have D10 : Hid (Dv dc w10 (dc + 2) dc (dc + 1) (.slice none 0 0) (newD 64 T.med)) := Lib.hid (D9.out.kept k10 (fun k hk e => by have := (D9.out.foot_lt k hk).1; have := DLT.out.1; omega))
                obtain ⟨g14, hg14⟩ : ∃ g, g = w10.heap.size := ⟨_, rfl⟩
                have hg14' := hg14.symm
                have H14 := Lib.hid hg14
                clear y10 k10 RD1 Y9 D9 hg14
                have RD2 : Hid (Calls Try.prog 13 #[.pointer (some ⟨dc + 2, 0, none⟩)] (w10.alloc (.cells #[.int .i64 0, .int .i64 0, .int .i64 0, .int .i64 0, .int .i64 0, .int .i64 0, .int .i64 0, .int .i64 0, .int .i64 0] 25)) fun e w' => e = .returned (.tuple #[.agg #[.int .i64 0, .int .i64 0, .int .i64 0, .int .i64 0, .int .i64 0, .int .i64 0, .int .i64 0, .int .i64 0, .int .i64 0], .int .i64 0, .int .i64 5]) ∧ Wy w w' (dm + 2) dm (dm + 1) cvt (rdk T 2) g6 g8 g9 (Sup.mk cgen cep cblk clog cst cpl crt ccnt cver) (Sup.mk ngen nep nblk nlog nst npl nrt ncnt nver) #[.int .i64 xgen, .int .i64 xep, .int .i64 xblk, .int .i64 xlog, .int .i64 xst, .int .i64 xpl, .int .i64 xrt, .int .i64 xcnt, .int .i64 xver, .int .i64 arm, .bool cr, (.slice af nf cf)] ∧ w'.heap[g14]? = some (.cells zeroS.arr 25 (0, 0))) := Lib.hid (by
                  have q0 : Below w10.heap.size w10 (w10.alloc (.cells #[.int .i64 0, .int .i64 0, .int .i64 0, .int .i64 0, .int .i64 0, .int .i64 0, .int .i64 0, .int .i64 0, .int .i64 0] 25)) := (Below.refl _ _).alloc (Nat.le_refl _) _
                  have q1 := read_up (D10.out.below q0) rfl
                  rw [RDT.out.2] at q1
                  refine q1.mono ?_
                  rintro e w' ⟨rfl, h1, h2⟩
                  have q2 := (D10.out.foot_lt (dc + 2) (Or.inl rfl)).2
                  refine ⟨rfl, (Y10.out.below q0).other (D10.out.below q0) (by have := DLT.out.1; omega) (by have := DLT.out.2; omega) h2, ?_⟩
                  rw [H14.out, h2.block _ (by simp) (by omega)]
                  exact heap_alloc_new _ _)
                go_wp2_with fail
                refine RD2.out.mono ?_
                rintro _ w11 ⟨rfl, y11, h14⟩
                have Y11 := Lib.hid (And.intro y11 h14)
                have AL : ∀ ob, Below w11.heap.size w11 (w11.alloc ob) := fun ob => (Below.refl _ _).alloc (Nat.le_refl _) ob
                have p0 : ∀ ob, (w11.alloc ob).cell? ⟨g14, 0, none⟩ = some (.int .i64 0) := fun ob => (sup_cells (s := zeroS) (((AL ob).block _ (lt_of_heap Y11.out.2)).trans Y11.out.2)).1
                have p1 : ∀ ob, (w11.alloc ob).cell? ⟨g14, 1, none⟩ = some (.int .i64 0) := fun ob => (sup_cells (s := zeroS) (((AL ob).block _ (lt_of_heap Y11.out.2)).trans Y11.out.2)).2.1
                have p2 : ∀ ob, (w11.alloc ob).cell? ⟨g14, 2, none⟩ = some (.int .i64 0) := fun ob => (sup_cells (s := zeroS) (((AL ob).block _ (lt_of_heap Y11.out.2)).trans Y11.out.2)).2.2.1
                have p3 : ∀ ob, (w11.alloc ob).cell? ⟨g14, 3, none⟩ = some (.int .i64 0) := fun ob => (sup_cells (s := zeroS) (((AL ob).block _ (lt_of_heap Y11.out.2)).trans Y11.out.2)).2.2.2.1
                have p4 : ∀ ob, (w11.alloc ob).cell? ⟨g14, 4, none⟩ = some (.int .i64 0) := fun ob => (sup_cells (s := zeroS) (((AL ob).block _ (lt_of_heap Y11.out.2)).trans Y11.out.2)).2.2.2.2.1
                have p5 : ∀ ob, (w11.alloc ob).cell? ⟨g14, 5, none⟩ = some (.int .i64 0) := fun ob => (sup_cells (s := zeroS) (((AL ob).block _ (lt_of_heap Y11.out.2)).trans Y11.out.2)).2.2.2.2.2.1
                have p6 : ∀ ob, (w11.alloc ob).cell? ⟨g14, 6, none⟩ = some (.int .i64 0) := fun ob => (sup_cells (s := zeroS) (((AL ob).block _ (lt_of_heap Y11.out.2)).trans Y11.out.2)).2.2.2.2.2.2.1
                have p7 : ∀ ob, (w11.alloc ob).cell? ⟨g14, 7, none⟩ = some (.int .i64 0) := fun ob => (sup_cells (s := zeroS) (((AL ob).block _ (lt_of_heap Y11.out.2)).trans Y11.out.2)).2.2.2.2.2.2.2.1
                have p8 : ∀ ob, (w11.alloc ob).cell? ⟨g14, 8, none⟩ = some (.int .i64 0) := fun ob => (sup_cells (s := zeroS) (((AL ob).block _ (lt_of_heap Y11.out.2)).trans Y11.out.2)).2.2.2.2.2.2.2.2
                have q0 : ∀ ob, (w11.alloc ob).cell? ⟨g6, 0, none⟩ = some (.int .i64 cgen) := fun ob => (sup_cells (s := (Sup.mk cgen cep cblk clog cst cpl crt ccnt cver)) (((AL ob).block _ (lt_of_heap Y11.out.1.b6)).trans Y11.out.1.b6)).1
                have q1 : ∀ ob, (w11.alloc ob).cell? ⟨g6, 1, none⟩ = some (.int .i64 cep) := fun ob => (sup_cells (s := (Sup.mk cgen cep cblk clog cst cpl crt ccnt cver)) (((AL ob).block _ (lt_of_heap Y11.out.1.b6)).trans Y11.out.1.b6)).2.1
                have q2 : ∀ ob, (w11.alloc ob).cell? ⟨g6, 2, none⟩ = some (.int .i64 cblk) := fun ob => (sup_cells (s := (Sup.mk cgen cep cblk clog cst cpl crt ccnt cver)) (((AL ob).block _ (lt_of_heap Y11.out.1.b6)).trans Y11.out.1.b6)).2.2.1
                have q3 : ∀ ob, (w11.alloc ob).cell? ⟨g6, 3, none⟩ = some (.int .i64 clog) := fun ob => (sup_cells (s := (Sup.mk cgen cep cblk clog cst cpl crt ccnt cver)) (((AL ob).block _ (lt_of_heap Y11.out.1.b6)).trans Y11.out.1.b6)).2.2.2.1
                have q4 : ∀ ob, (w11.alloc ob).cell? ⟨g6, 4, none⟩ = some (.int .i64 cst) := fun ob => (sup_cells (s := (Sup.mk cgen cep cblk clog cst cpl crt ccnt cver)) (((AL ob).block _ (lt_of_heap Y11.out.1.b6)).trans Y11.out.1.b6)).2.2.2.2.1
                have q5 : ∀ ob, (w11.alloc ob).cell? ⟨g6, 5, none⟩ = some (.int .i64 cpl) := fun ob => (sup_cells (s := (Sup.mk cgen cep cblk clog cst cpl crt ccnt cver)) (((AL ob).block _ (lt_of_heap Y11.out.1.b6)).trans Y11.out.1.b6)).2.2.2.2.2.1
                have q6 : ∀ ob, (w11.alloc ob).cell? ⟨g6, 6, none⟩ = some (.int .i64 crt) := fun ob => (sup_cells (s := (Sup.mk cgen cep cblk clog cst cpl crt ccnt cver)) (((AL ob).block _ (lt_of_heap Y11.out.1.b6)).trans Y11.out.1.b6)).2.2.2.2.2.2.1
                have q7 : ∀ ob, (w11.alloc ob).cell? ⟨g6, 7, none⟩ = some (.int .i64 ccnt) := fun ob => (sup_cells (s := (Sup.mk cgen cep cblk clog cst cpl crt ccnt cver)) (((AL ob).block _ (lt_of_heap Y11.out.1.b6)).trans Y11.out.1.b6)).2.2.2.2.2.2.2.1
                have q8 : ∀ ob, (w11.alloc ob).cell? ⟨g6, 8, none⟩ = some (.int .i64 cver) := fun ob => (sup_cells (s := (Sup.mk cgen cep cblk clog cst cpl crt ccnt cver)) (((AL ob).block _ (lt_of_heap Y11.out.1.b6)).trans Y11.out.1.b6)).2.2.2.2.2.2.2.2
                have r0 : ∀ ob, (w11.alloc ob).cell? ⟨g9, 0, none⟩ = some (.int .i64 ngen) := fun ob => (sup_cells (s := (Sup.mk ngen nep nblk nlog nst npl nrt ncnt nver)) (((AL ob).block _ (lt_of_heap Y11.out.1.b9)).trans Y11.out.1.b9)).1
                have r1 : ∀ ob, (w11.alloc ob).cell? ⟨g9, 1, none⟩ = some (.int .i64 nep) := fun ob => (sup_cells (s := (Sup.mk ngen nep nblk nlog nst npl nrt ncnt nver)) (((AL ob).block _ (lt_of_heap Y11.out.1.b9)).trans Y11.out.1.b9)).2.1
                have r2 : ∀ ob, (w11.alloc ob).cell? ⟨g9, 2, none⟩ = some (.int .i64 nblk) := fun ob => (sup_cells (s := (Sup.mk ngen nep nblk nlog nst npl nrt ncnt nver)) (((AL ob).block _ (lt_of_heap Y11.out.1.b9)).trans Y11.out.1.b9)).2.2.1
                have r3 : ∀ ob, (w11.alloc ob).cell? ⟨g9, 3, none⟩ = some (.int .i64 nlog) := fun ob => (sup_cells (s := (Sup.mk ngen nep nblk nlog nst npl nrt ncnt nver)) (((AL ob).block _ (lt_of_heap Y11.out.1.b9)).trans Y11.out.1.b9)).2.2.2.1
                have r4 : ∀ ob, (w11.alloc ob).cell? ⟨g9, 4, none⟩ = some (.int .i64 nst) := fun ob => (sup_cells (s := (Sup.mk ngen nep nblk nlog nst npl nrt ncnt nver)) (((AL ob).block _ (lt_of_heap Y11.out.1.b9)).trans Y11.out.1.b9)).2.2.2.2.1
                have r5 : ∀ ob, (w11.alloc ob).cell? ⟨g9, 5, none⟩ = some (.int .i64 npl) := fun ob => (sup_cells (s := (Sup.mk ngen nep nblk nlog nst npl nrt ncnt nver)) (((AL ob).block _ (lt_of_heap Y11.out.1.b9)).trans Y11.out.1.b9)).2.2.2.2.2.1
                have r6 : ∀ ob, (w11.alloc ob).cell? ⟨g9, 6, none⟩ = some (.int .i64 nrt) := fun ob => (sup_cells (s := (Sup.mk ngen nep nblk nlog nst npl nrt ncnt nver)) (((AL ob).block _ (lt_of_heap Y11.out.1.b9)).trans Y11.out.1.b9)).2.2.2.2.2.2.1
                have r7 : ∀ ob, (w11.alloc ob).cell? ⟨g9, 7, none⟩ = some (.int .i64 ncnt) := fun ob => (sup_cells (s := (Sup.mk ngen nep nblk nlog nst npl nrt ncnt nver)) (((AL ob).block _ (lt_of_heap Y11.out.1.b9)).trans Y11.out.1.b9)).2.2.2.2.2.2.2.1
                have r8 : ∀ ob, (w11.alloc ob).cell? ⟨g9, 8, none⟩ = some (.int .i64 nver) := fun ob => (sup_cells (s := (Sup.mk ngen nep nblk nlog nst npl nrt ncnt nver)) (((AL ob).block _ (lt_of_heap Y11.out.1.b9)).trans Y11.out.1.b9)).2.2.2.2.2.2.2.2
                have YF : Hid (∀ ob, Wy w (w11.alloc ob) (dm + 2) dm (dm + 1) cvt (rdk T 2) g6 g8 g9 (Sup.mk cgen cep cblk clog cst cpl crt ccnt cver) (Sup.mk ngen nep nblk nlog nst npl nrt ncnt nver) #[.int .i64 xgen, .int .i64 xep, .int .i64 xblk, .int .i64 xlog, .int .i64 xst, .int .i64 xpl, .int .i64 xrt, .int .i64 xcnt, .int .i64 xver, .int .i64 arm, .bool cr, (.slice af nf cf)]) := Lib.hid (fun ob => Y11.out.1.below (AL ob))
                clear y11 h14 AL RD2 Y10 D10
                have ez : (cgen != 0) = false := by rw [bne_eq_false_iff_eq]; exact CZ.out
                clear Y11
                go_wp2_with fail
                go_roundg (n - (k + 1))
                case measure => have := G.out; omega
                case rel => exact ⟨k + 1, cvt, rdk T 2, (Sup.mk cgen cep cblk clog cst cpl crt ccnt cver), by omega, rfl, by go_num, (YF.out _).dv, (YF.out _).b6, (YF.out _).bl, LO.out, TF.out.1, TF.out.2.1, TF.out.2.2.1, TI.out, by have := GK.out; show cgen ≤ ((k + 1 : Nat) : Int); omega, TF.out.2.2.2⟩
            · as_aux_lemma =>
                have CZ := Lib.hid hz
                clear hz
                have RDT : Hid (readU T = ((Sup.mk cgen cep cblk clog cst cpl crt ccnt cver), (cgen % 2), 0) ∧ readU (newD 64 T.med) = ((Sup.mk cgen cep cblk clog cst cpl crt ccnt cver), (cgen % 2), 0)) := Lib.hid (by
                  have q1 := iv_read TI.out TF.out.2.1 TF.out.2.2.1
                  have q2 := iv_read (D := newD 64 T.med) TI.out rfl rfl
                  rw [if_neg (show ¬ (Sup.mk cgen cep cblk clog cst cpl crt ccnt cver).gen = 0 from CZ.out)] at q1 q2
                  exact ⟨q1, q2⟩)
                go_wp2_with fail
                refine (medium_x YT.out.dv).mono ?_
                rintro _ w8 ⟨am, nm, cm, rfl, o8, b8⟩
                have Y8 := Lib.hid (YT.out.below b8)
                have OFC := Lib.hid (of_ok _ T.med 64 w8 o8 TI.out.len (by decide) (by decide))
                obtain ⟨dc, hdc⟩ : ∃ n, n = w8.heap.size := ⟨_, rfl⟩
                have DLT : Hid (dm + 2 < dc ∧ w.heap.size ≤ dc) := Lib.hid (by have q1 := (YT.out.dv.foot_lt (dm + 2) (Or.inl rfl)).2; have q2 := b8.size; have q3 := YT.out.bl.size; omega)
                rw [← hdc] at OFC
                have HDC := Lib.hid hdc
                clear o8 b8 hdc YT
                go_wp2_with fail
                refine OFC.out.mono ?_
                rintro _ w9 ⟨rfl, b9, d9⟩
                have Y9 := Lib.hid (Y8.out.below (by have q := b9; rw [HDC.out] at q; exact q))
                have D9 := Lib.hid d9
                have RD1 : Hid (Calls Try.prog 13 #[.pointer (some ⟨dm + 2, 0, none⟩)] w9 fun e w' => e = .returned (.tuple #[.agg #[.int .i64 cgen, .int .i64 cep, .int .i64 cblk, .int .i64 clog, .int .i64 cst, .int .i64 cpl, .int .i64 crt, .int .i64 ccnt, .int .i64 cver], .int .i64 (cgen % 2), .int .i64 0]) ∧ Wy w w' (dm + 2) dm (dm + 1) cvt (rdk T 2) g6 g8 g9 (Sup.mk cgen cep cblk clog cst cpl crt ccnt cver) (Sup.mk ngen nep nblk nlog nst npl nrt ncnt nver) #[.int .i64 xgen, .int .i64 xep, .int .i64 xblk, .int .i64 xlog, .int .i64 xst, .int .i64 xpl, .int .i64 xrt, .int .i64 xcnt, .int .i64 xver, .int .i64 arm, .bool cr, (.slice af nf cf)] ∧ Kept (fun k => k = dm + 2) w9 w') := Lib.hid (read_x Y9.out TF.out.1 ((Sup.mk cgen cep cblk clog cst cpl crt ccnt cver), (cgen % 2), 0) RDT.out.1)
                clear b9 d9 Y8 OFC
                go_wp2_with fail
                refine RD1.out.mono ?_
                rintro _ w10 ⟨rfl, y10, k10⟩
                have Y10 := Lib.hid y10
                have D10 : Hid (Dv dc w10 (dc + 2) dc (dc + 1) (.slice none 0 0) (newD 64 T.med)) := Lib.hid (D9.out.kept k10 (fun k hk e => by have := (D9.out.foot_lt k hk).1; have := DLT.out.1; omega))
                obtain ⟨g14, hg14⟩ : ∃ g, g = w10.heap.size := ⟨_, rfl⟩
                have hg14' := hg14.symm
                have H14 := Lib.hid hg14
                clear y10 k10 RD1 Y9 D9 hg14
                have RD2 : Hid (Calls Try.prog 13 #[.pointer (some ⟨dc + 2, 0, none⟩)] (w10.alloc (.cells #[.int .i64 cgen, .int .i64 cep, .int .i64 cblk, .int .i64 clog, .int .i64 cst, .int .i64 cpl, .int .i64 crt, .int .i64 ccnt, .int .i64 cver] 25)) fun e w' => e = .returned (.tuple #[.agg #[.int .i64 cgen, .int .i64 cep, .int .i64 cblk, .int .i64 clog, .int .i64 cst, .int .i64 cpl, .int .i64 crt, .int .i64 ccnt, .int .i64 cver], .int .i64 (cgen % 2), .int .i64 0]) ∧ Wy w w' (dm + 2) dm (dm + 1) cvt (rdk T 2) g6 g8 g9 (Sup.mk cgen cep cblk clog cst cpl crt ccnt cver) (Sup.mk ngen nep nblk nlog nst npl nrt ncnt nver) #[.int .i64 xgen, .int .i64 xep, .int .i64 xblk, .int .i64 xlog, .int .i64 xst, .int .i64 xpl, .int .i64 xrt, .int .i64 xcnt, .int .i64 xver, .int .i64 arm, .bool cr, (.slice af nf cf)] ∧ w'.heap[g14]? = some (.cells (Sup.mk cgen cep cblk clog cst cpl crt ccnt cver).arr 25 (0, 0))) := Lib.hid (by
                  have q0 : Below w10.heap.size w10 (w10.alloc (.cells #[.int .i64 cgen, .int .i64 cep, .int .i64 cblk, .int .i64 clog, .int .i64 cst, .int .i64 cpl, .int .i64 crt, .int .i64 ccnt, .int .i64 cver] 25)) := (Below.refl _ _).alloc (Nat.le_refl _) _
                  have q1 := read_up (D10.out.below q0) rfl
                  rw [RDT.out.2] at q1
                  refine q1.mono ?_
                  rintro e w' ⟨rfl, h1, h2⟩
                  have q2 := (D10.out.foot_lt (dc + 2) (Or.inl rfl)).2
                  refine ⟨rfl, (Y10.out.below q0).other (D10.out.below q0) (by have := DLT.out.1; omega) (by have := DLT.out.2; omega) h2, ?_⟩
                  rw [H14.out, h2.block _ (by simp) (by omega)]
                  exact heap_alloc_new _ _)
                go_wp2_with fail
                refine RD2.out.mono ?_
                rintro _ w11 ⟨rfl, y11, h14⟩
                have Y11 := Lib.hid (And.intro y11 h14)
                have AL : ∀ ob, Below w11.heap.size w11 (w11.alloc ob) := fun ob => (Below.refl _ _).alloc (Nat.le_refl _) ob
                have p0 : ∀ ob, (w11.alloc ob).cell? ⟨g14, 0, none⟩ = some (.int .i64 cgen) := fun ob => (sup_cells (s := (Sup.mk cgen cep cblk clog cst cpl crt ccnt cver)) (((AL ob).block _ (lt_of_heap Y11.out.2)).trans Y11.out.2)).1
                have p1 : ∀ ob, (w11.alloc ob).cell? ⟨g14, 1, none⟩ = some (.int .i64 cep) := fun ob => (sup_cells (s := (Sup.mk cgen cep cblk clog cst cpl crt ccnt cver)) (((AL ob).block _ (lt_of_heap Y11.out.2)).trans Y11.out.2)).2.1
                have p2 : ∀ ob, (w11.alloc ob).cell? ⟨g14, 2, none⟩ = some (.int .i64 cblk) := fun ob => (sup_cells (s := (Sup.mk cgen cep cblk clog cst cpl crt ccnt cver)) (((AL ob).block _ (lt_of_heap Y11.out.2)).trans Y11.out.2)).2.2.1
                have p3 : ∀ ob, (w11.alloc ob).cell? ⟨g14, 3, none⟩ = some (.int .i64 clog) := fun ob => (sup_cells (s := (Sup.mk cgen cep cblk clog cst cpl crt ccnt cver)) (((AL ob).block _ (lt_of_heap Y11.out.2)).trans Y11.out.2)).2.2.2.1
                have p4 : ∀ ob, (w11.alloc ob).cell? ⟨g14, 4, none⟩ = some (.int .i64 cst) := fun ob => (sup_cells (s := (Sup.mk cgen cep cblk clog cst cpl crt ccnt cver)) (((AL ob).block _ (lt_of_heap Y11.out.2)).trans Y11.out.2)).2.2.2.2.1
                have p5 : ∀ ob, (w11.alloc ob).cell? ⟨g14, 5, none⟩ = some (.int .i64 cpl) := fun ob => (sup_cells (s := (Sup.mk cgen cep cblk clog cst cpl crt ccnt cver)) (((AL ob).block _ (lt_of_heap Y11.out.2)).trans Y11.out.2)).2.2.2.2.2.1
                have p6 : ∀ ob, (w11.alloc ob).cell? ⟨g14, 6, none⟩ = some (.int .i64 crt) := fun ob => (sup_cells (s := (Sup.mk cgen cep cblk clog cst cpl crt ccnt cver)) (((AL ob).block _ (lt_of_heap Y11.out.2)).trans Y11.out.2)).2.2.2.2.2.2.1
                have p7 : ∀ ob, (w11.alloc ob).cell? ⟨g14, 7, none⟩ = some (.int .i64 ccnt) := fun ob => (sup_cells (s := (Sup.mk cgen cep cblk clog cst cpl crt ccnt cver)) (((AL ob).block _ (lt_of_heap Y11.out.2)).trans Y11.out.2)).2.2.2.2.2.2.2.1
                have p8 : ∀ ob, (w11.alloc ob).cell? ⟨g14, 8, none⟩ = some (.int .i64 cver) := fun ob => (sup_cells (s := (Sup.mk cgen cep cblk clog cst cpl crt ccnt cver)) (((AL ob).block _ (lt_of_heap Y11.out.2)).trans Y11.out.2)).2.2.2.2.2.2.2.2
                have q0 : ∀ ob, (w11.alloc ob).cell? ⟨g6, 0, none⟩ = some (.int .i64 cgen) := fun ob => (sup_cells (s := (Sup.mk cgen cep cblk clog cst cpl crt ccnt cver)) (((AL ob).block _ (lt_of_heap Y11.out.1.b6)).trans Y11.out.1.b6)).1
                have q1 : ∀ ob, (w11.alloc ob).cell? ⟨g6, 1, none⟩ = some (.int .i64 cep) := fun ob => (sup_cells (s := (Sup.mk cgen cep cblk clog cst cpl crt ccnt cver)) (((AL ob).block _ (lt_of_heap Y11.out.1.b6)).trans Y11.out.1.b6)).2.1
                have q2 : ∀ ob, (w11.alloc ob).cell? ⟨g6, 2, none⟩ = some (.int .i64 cblk) := fun ob => (sup_cells (s := (Sup.mk cgen cep cblk clog cst cpl crt ccnt cver)) (((AL ob).block _ (lt_of_heap Y11.out.1.b6)).trans Y11.out.1.b6)).2.2.1
                have q3 : ∀ ob, (w11.alloc ob).cell? ⟨g6, 3, none⟩ = some (.int .i64 clog) := fun ob => (sup_cells (s := (Sup.mk cgen cep cblk clog cst cpl crt ccnt cver)) (((AL ob).block _ (lt_of_heap Y11.out.1.b6)).trans Y11.out.1.b6)).2.2.2.1
                have q4 : ∀ ob, (w11.alloc ob).cell? ⟨g6, 4, none⟩ = some (.int .i64 cst) := fun ob => (sup_cells (s := (Sup.mk cgen cep cblk clog cst cpl crt ccnt cver)) (((AL ob).block _ (lt_of_heap Y11.out.1.b6)).trans Y11.out.1.b6)).2.2.2.2.1
                have q5 : ∀ ob, (w11.alloc ob).cell? ⟨g6, 5, none⟩ = some (.int .i64 cpl) := fun ob => (sup_cells (s := (Sup.mk cgen cep cblk clog cst cpl crt ccnt cver)) (((AL ob).block _ (lt_of_heap Y11.out.1.b6)).trans Y11.out.1.b6)).2.2.2.2.2.1
                have q6 : ∀ ob, (w11.alloc ob).cell? ⟨g6, 6, none⟩ = some (.int .i64 crt) := fun ob => (sup_cells (s := (Sup.mk cgen cep cblk clog cst cpl crt ccnt cver)) (((AL ob).block _ (lt_of_heap Y11.out.1.b6)).trans Y11.out.1.b6)).2.2.2.2.2.2.1
                have q7 : ∀ ob, (w11.alloc ob).cell? ⟨g6, 7, none⟩ = some (.int .i64 ccnt) := fun ob => (sup_cells (s := (Sup.mk cgen cep cblk clog cst cpl crt ccnt cver)) (((AL ob).block _ (lt_of_heap Y11.out.1.b6)).trans Y11.out.1.b6)).2.2.2.2.2.2.2.1
                have q8 : ∀ ob, (w11.alloc ob).cell? ⟨g6, 8, none⟩ = some (.int .i64 cver) := fun ob => (sup_cells (s := (Sup.mk cgen cep cblk clog cst cpl crt ccnt cver)) (((AL ob).block _ (lt_of_heap Y11.out.1.b6)).trans Y11.out.1.b6)).2.2.2.2.2.2.2.2
                have r0 : ∀ ob, (w11.alloc ob).cell? ⟨g9, 0, none⟩ = some (.int .i64 ngen) := fun ob => (sup_cells (s := (Sup.mk ngen nep nblk nlog nst npl nrt ncnt nver)) (((AL ob).block _ (lt_of_heap Y11.out.1.b9)).trans Y11.out.1.b9)).1
                have r1 : ∀ ob, (w11.alloc ob).cell? ⟨g9, 1, none⟩ = some (.int .i64 nep) := fun ob => (sup_cells (s := (Sup.mk ngen nep nblk nlog nst npl nrt ncnt nver)) (((AL ob).block _ (lt_of_heap Y11.out.1.b9)).trans Y11.out.1.b9)).2.1
                have r2 : ∀ ob, (w11.alloc ob).cell? ⟨g9, 2, none⟩ = some (.int .i64 nblk) := fun ob => (sup_cells (s := (Sup.mk ngen nep nblk nlog nst npl nrt ncnt nver)) (((AL ob).block _ (lt_of_heap Y11.out.1.b9)).trans Y11.out.1.b9)).2.2.1
                have r3 : ∀ ob, (w11.alloc ob).cell? ⟨g9, 3, none⟩ = some (.int .i64 nlog) := fun ob => (sup_cells (s := (Sup.mk ngen nep nblk nlog nst npl nrt ncnt nver)) (((AL ob).block _ (lt_of_heap Y11.out.1.b9)).trans Y11.out.1.b9)).2.2.2.1
                have r4 : ∀ ob, (w11.alloc ob).cell? ⟨g9, 4, none⟩ = some (.int .i64 nst) := fun ob => (sup_cells (s := (Sup.mk ngen nep nblk nlog nst npl nrt ncnt nver)) (((AL ob).block _ (lt_of_heap Y11.out.1.b9)).trans Y11.out.1.b9)).2.2.2.2.1
                have r5 : ∀ ob, (w11.alloc ob).cell? ⟨g9, 5, none⟩ = some (.int .i64 npl) := fun ob => (sup_cells (s := (Sup.mk ngen nep nblk nlog nst npl nrt ncnt nver)) (((AL ob).block _ (lt_of_heap Y11.out.1.b9)).trans Y11.out.1.b9)).2.2.2.2.2.1
                have r6 : ∀ ob, (w11.alloc ob).cell? ⟨g9, 6, none⟩ = some (.int .i64 nrt) := fun ob => (sup_cells (s := (Sup.mk ngen nep nblk nlog nst npl nrt ncnt nver)) (((AL ob).block _ (lt_of_heap Y11.out.1.b9)).trans Y11.out.1.b9)).2.2.2.2.2.2.1
                have r7 : ∀ ob, (w11.alloc ob).cell? ⟨g9, 7, none⟩ = some (.int .i64 ncnt) := fun ob => (sup_cells (s := (Sup.mk ngen nep nblk nlog nst npl nrt ncnt nver)) (((AL ob).block _ (lt_of_heap Y11.out.1.b9)).trans Y11.out.1.b9)).2.2.2.2.2.2.2.1
                have r8 : ∀ ob, (w11.alloc ob).cell? ⟨g9, 8, none⟩ = some (.int .i64 nver) := fun ob => (sup_cells (s := (Sup.mk ngen nep nblk nlog nst npl nrt ncnt nver)) (((AL ob).block _ (lt_of_heap Y11.out.1.b9)).trans Y11.out.1.b9)).2.2.2.2.2.2.2.2
                have YF : Hid (∀ ob, Wy w (w11.alloc ob) (dm + 2) dm (dm + 1) cvt (rdk T 2) g6 g8 g9 (Sup.mk cgen cep cblk clog cst cpl crt ccnt cver) (Sup.mk ngen nep nblk nlog nst npl nrt ncnt nver) #[.int .i64 xgen, .int .i64 xep, .int .i64 xblk, .int .i64 xlog, .int .i64 xst, .int .i64 xpl, .int .i64 xrt, .int .i64 xcnt, .int .i64 xver, .int .i64 arm, .bool cr, (.slice af nf cf)]) := Lib.hid (fun ob => Y11.out.1.below (AL ob))
                clear y11 h14 AL RD2 Y10 D10
                have rem : cgen.tmod 2 = cgen % 2 := Int.tmod_eq_emod_of_nonneg (by have := GP.out; omega)
                clear Y11
                go_wp2_with (first | (refine wpList_store_row rfl 25 (.tmp 6) (.tmp 149) rfl g6 (Sup.mk cgen cep cblk clog cst cpl crt ccnt cver).arr rfl rfl 25 (Sup.mk cgen cep cblk clog cst cpl crt ccnt cver).arr (YF.out _).b6 size_super rfl (arr_one _) ?_))
                go_roundg (n - (k + 1))
                case measure => have := G.out; omega
                case rel => exact ⟨k + 1, cvt, rdk T 2, (Sup.mk cgen cep cblk clog cst cpl crt ccnt cver), by omega, rfl, by go_num, ((YF.out _).six _).dv, ((YF.out _).six _).b6, ((YF.out _).six _).bl, LO.out, TF.out.1, TF.out.2.1, TF.out.2.2.1, TI.out, by have := GK.out; have := GP.out; show cgen ≤ ((k + 1 : Nat) : Int); omega, TF.out.2.2.2⟩
          · as_aux_lemma =>
              have TI := Lib.hid iv
              clear iv EI
              have CZ : Hid (¬ ngen = 0) := Lib.hid (by have := GP.out; omega)
              have RDT : Hid (readU T = ((Sup.mk ngen nep nblk nlog nst npl nrt ncnt nver), (ngen % 2), 0) ∧ readU (newD 64 T.med) = ((Sup.mk ngen nep nblk nlog nst npl nrt ncnt nver), (ngen % 2), 0)) := Lib.hid (by
                have q1 := iv_read TI.out TF.out.2.1 TF.out.2.2.1
                have q2 := iv_read (D := newD 64 T.med) TI.out rfl rfl
                rw [if_neg (show ¬ (Sup.mk ngen nep nblk nlog nst npl nrt ncnt nver).gen = 0 from CZ.out)] at q1 q2
                exact ⟨q1, q2⟩)
              go_wp2_with fail
              refine (medium_x YT.out.dv).mono ?_
              rintro _ w8 ⟨am, nm, cm, rfl, o8, b8⟩
              have Y8 := Lib.hid (YT.out.below b8)
              have OFC := Lib.hid (of_ok _ T.med 64 w8 o8 TI.out.len (by decide) (by decide))
              obtain ⟨dc, hdc⟩ : ∃ n, n = w8.heap.size := ⟨_, rfl⟩
              have DLT : Hid (dm + 2 < dc ∧ w.heap.size ≤ dc) := Lib.hid (by have q1 := (YT.out.dv.foot_lt (dm + 2) (Or.inl rfl)).2; have q2 := b8.size; have q3 := YT.out.bl.size; omega)
              rw [← hdc] at OFC
              have HDC := Lib.hid hdc
              clear o8 b8 hdc YT
              go_wp2_with fail
              refine OFC.out.mono ?_
              rintro _ w9 ⟨rfl, b9, d9⟩
              have Y9 := Lib.hid (Y8.out.below (by have q := b9; rw [HDC.out] at q; exact q))
              have D9 := Lib.hid d9
              have RD1 : Hid (Calls Try.prog 13 #[.pointer (some ⟨dm + 2, 0, none⟩)] w9 fun e w' => e = .returned (.tuple #[.agg #[.int .i64 ngen, .int .i64 nep, .int .i64 nblk, .int .i64 nlog, .int .i64 nst, .int .i64 npl, .int .i64 nrt, .int .i64 ncnt, .int .i64 nver], .int .i64 (ngen % 2), .int .i64 0]) ∧ Wy w w' (dm + 2) dm (dm + 1) cvt (rdk T 2) g6 g8 g9 (Sup.mk cgen cep cblk clog cst cpl crt ccnt cver) (Sup.mk ngen nep nblk nlog nst npl nrt ncnt nver) #[.int .i64 xgen, .int .i64 xep, .int .i64 xblk, .int .i64 xlog, .int .i64 xst, .int .i64 xpl, .int .i64 xrt, .int .i64 xcnt, .int .i64 xver, .int .i64 arm, .bool cr, (.slice af nf cf)] ∧ Kept (fun k => k = dm + 2) w9 w') := Lib.hid (read_x Y9.out TF.out.1 ((Sup.mk ngen nep nblk nlog nst npl nrt ncnt nver), (ngen % 2), 0) RDT.out.1)
              clear b9 d9 Y8 OFC
              go_wp2_with fail
              refine RD1.out.mono ?_
              rintro _ w10 ⟨rfl, y10, k10⟩
              have Y10 := Lib.hid y10
              have D10 : Hid (Dv dc w10 (dc + 2) dc (dc + 1) (.slice none 0 0) (newD 64 T.med)) := Lib.hid (D9.out.kept k10 (fun k hk e => by have := (D9.out.foot_lt k hk).1; have := DLT.out.1; omega))
              obtain ⟨g14, hg14⟩ : ∃ g, g = w10.heap.size := ⟨_, rfl⟩
              have hg14' := hg14.symm
              have H14 := Lib.hid hg14
              clear y10 k10 RD1 Y9 D9 hg14
              have RD2 : Hid (Calls Try.prog 13 #[.pointer (some ⟨dc + 2, 0, none⟩)] (w10.alloc (.cells #[.int .i64 ngen, .int .i64 nep, .int .i64 nblk, .int .i64 nlog, .int .i64 nst, .int .i64 npl, .int .i64 nrt, .int .i64 ncnt, .int .i64 nver] 25)) fun e w' => e = .returned (.tuple #[.agg #[.int .i64 ngen, .int .i64 nep, .int .i64 nblk, .int .i64 nlog, .int .i64 nst, .int .i64 npl, .int .i64 nrt, .int .i64 ncnt, .int .i64 nver], .int .i64 (ngen % 2), .int .i64 0]) ∧ Wy w w' (dm + 2) dm (dm + 1) cvt (rdk T 2) g6 g8 g9 (Sup.mk cgen cep cblk clog cst cpl crt ccnt cver) (Sup.mk ngen nep nblk nlog nst npl nrt ncnt nver) #[.int .i64 xgen, .int .i64 xep, .int .i64 xblk, .int .i64 xlog, .int .i64 xst, .int .i64 xpl, .int .i64 xrt, .int .i64 xcnt, .int .i64 xver, .int .i64 arm, .bool cr, (.slice af nf cf)] ∧ w'.heap[g14]? = some (.cells (Sup.mk ngen nep nblk nlog nst npl nrt ncnt nver).arr 25 (0, 0))) := Lib.hid (by
                have q0 : Below w10.heap.size w10 (w10.alloc (.cells #[.int .i64 ngen, .int .i64 nep, .int .i64 nblk, .int .i64 nlog, .int .i64 nst, .int .i64 npl, .int .i64 nrt, .int .i64 ncnt, .int .i64 nver] 25)) := (Below.refl _ _).alloc (Nat.le_refl _) _
                have q1 := read_up (D10.out.below q0) rfl
                rw [RDT.out.2] at q1
                refine q1.mono ?_
                rintro e w' ⟨rfl, h1, h2⟩
                have q2 := (D10.out.foot_lt (dc + 2) (Or.inl rfl)).2
                refine ⟨rfl, (Y10.out.below q0).other (D10.out.below q0) (by have := DLT.out.1; omega) (by have := DLT.out.2; omega) h2, ?_⟩
                rw [H14.out, h2.block _ (by simp) (by omega)]
                exact heap_alloc_new _ _)
              go_wp2_with fail
              refine RD2.out.mono ?_
              rintro _ w11 ⟨rfl, y11, h14⟩
              have Y11 := Lib.hid (And.intro y11 h14)
              have AL : ∀ ob, Below w11.heap.size w11 (w11.alloc ob) := fun ob => (Below.refl _ _).alloc (Nat.le_refl _) ob
              have p0 : ∀ ob, (w11.alloc ob).cell? ⟨g14, 0, none⟩ = some (.int .i64 ngen) := fun ob => (sup_cells (s := (Sup.mk ngen nep nblk nlog nst npl nrt ncnt nver)) (((AL ob).block _ (lt_of_heap Y11.out.2)).trans Y11.out.2)).1
              have p1 : ∀ ob, (w11.alloc ob).cell? ⟨g14, 1, none⟩ = some (.int .i64 nep) := fun ob => (sup_cells (s := (Sup.mk ngen nep nblk nlog nst npl nrt ncnt nver)) (((AL ob).block _ (lt_of_heap Y11.out.2)).trans Y11.out.2)).2.1
              have p2 : ∀ ob, (w11.alloc ob).cell? ⟨g14, 2, none⟩ = some (.int .i64 nblk) := fun ob => (sup_cells (s := (Sup.mk ngen nep nblk nlog nst npl nrt ncnt nver)) (((AL ob).block _ (lt_of_heap Y11.out.2)).trans Y11.out.2)).2.2.1
              have p3 : ∀ ob, (w11.alloc ob).cell? ⟨g14, 3, none⟩ = some (.int .i64 nlog) := fun ob => (sup_cells (s := (Sup.mk ngen nep nblk nlog nst npl nrt ncnt nver)) (((AL ob).block _ (lt_of_heap Y11.out.2)).trans Y11.out.2)).2.2.2.1
              have p4 : ∀ ob, (w11.alloc ob).cell? ⟨g14, 4, none⟩ = some (.int .i64 nst) := fun ob => (sup_cells (s := (Sup.mk ngen nep nblk nlog nst npl nrt ncnt nver)) (((AL ob).block _ (lt_of_heap Y11.out.2)).trans Y11.out.2)).2.2.2.2.1
              have p5 : ∀ ob, (w11.alloc ob).cell? ⟨g14, 5, none⟩ = some (.int .i64 npl) := fun ob => (sup_cells (s := (Sup.mk ngen nep nblk nlog nst npl nrt ncnt nver)) (((AL ob).block _ (lt_of_heap Y11.out.2)).trans Y11.out.2)).2.2.2.2.2.1
              have p6 : ∀ ob, (w11.alloc ob).cell? ⟨g14, 6, none⟩ = some (.int .i64 nrt) := fun ob => (sup_cells (s := (Sup.mk ngen nep nblk nlog nst npl nrt ncnt nver)) (((AL ob).block _ (lt_of_heap Y11.out.2)).trans Y11.out.2)).2.2.2.2.2.2.1
              have p7 : ∀ ob, (w11.alloc ob).cell? ⟨g14, 7, none⟩ = some (.int .i64 ncnt) := fun ob => (sup_cells (s := (Sup.mk ngen nep nblk nlog nst npl nrt ncnt nver)) (((AL ob).block _ (lt_of_heap Y11.out.2)).trans Y11.out.2)).2.2.2.2.2.2.2.1
              have p8 : ∀ ob, (w11.alloc ob).cell? ⟨g14, 8, none⟩ = some (.int .i64 nver) := fun ob => (sup_cells (s := (Sup.mk ngen nep nblk nlog nst npl nrt ncnt nver)) (((AL ob).block _ (lt_of_heap Y11.out.2)).trans Y11.out.2)).2.2.2.2.2.2.2.2
              have q0 : ∀ ob, (w11.alloc ob).cell? ⟨g6, 0, none⟩ = some (.int .i64 cgen) := fun ob => (sup_cells (s := (Sup.mk cgen cep cblk clog cst cpl crt ccnt cver)) (((AL ob).block _ (lt_of_heap Y11.out.1.b6)).trans Y11.out.1.b6)).1
              have q1 : ∀ ob, (w11.alloc ob).cell? ⟨g6, 1, none⟩ = some (.int .i64 cep) := fun ob => (sup_cells (s := (Sup.mk cgen cep cblk clog cst cpl crt ccnt cver)) (((AL ob).block _ (lt_of_heap Y11.out.1.b6)).trans Y11.out.1.b6)).2.1
              have q2 : ∀ ob, (w11.alloc ob).cell? ⟨g6, 2, none⟩ = some (.int .i64 cblk) := fun ob => (sup_cells (s := (Sup.mk cgen cep cblk clog cst cpl crt ccnt cver)) (((AL ob).block _ (lt_of_heap Y11.out.1.b6)).trans Y11.out.1.b6)).2.2.1
              have q3 : ∀ ob, (w11.alloc ob).cell? ⟨g6, 3, none⟩ = some (.int .i64 clog) := fun ob => (sup_cells (s := (Sup.mk cgen cep cblk clog cst cpl crt ccnt cver)) (((AL ob).block _ (lt_of_heap Y11.out.1.b6)).trans Y11.out.1.b6)).2.2.2.1
              have q4 : ∀ ob, (w11.alloc ob).cell? ⟨g6, 4, none⟩ = some (.int .i64 cst) := fun ob => (sup_cells (s := (Sup.mk cgen cep cblk clog cst cpl crt ccnt cver)) (((AL ob).block _ (lt_of_heap Y11.out.1.b6)).trans Y11.out.1.b6)).2.2.2.2.1
              have q5 : ∀ ob, (w11.alloc ob).cell? ⟨g6, 5, none⟩ = some (.int .i64 cpl) := fun ob => (sup_cells (s := (Sup.mk cgen cep cblk clog cst cpl crt ccnt cver)) (((AL ob).block _ (lt_of_heap Y11.out.1.b6)).trans Y11.out.1.b6)).2.2.2.2.2.1
              have q6 : ∀ ob, (w11.alloc ob).cell? ⟨g6, 6, none⟩ = some (.int .i64 crt) := fun ob => (sup_cells (s := (Sup.mk cgen cep cblk clog cst cpl crt ccnt cver)) (((AL ob).block _ (lt_of_heap Y11.out.1.b6)).trans Y11.out.1.b6)).2.2.2.2.2.2.1
              have q7 : ∀ ob, (w11.alloc ob).cell? ⟨g6, 7, none⟩ = some (.int .i64 ccnt) := fun ob => (sup_cells (s := (Sup.mk cgen cep cblk clog cst cpl crt ccnt cver)) (((AL ob).block _ (lt_of_heap Y11.out.1.b6)).trans Y11.out.1.b6)).2.2.2.2.2.2.2.1
              have q8 : ∀ ob, (w11.alloc ob).cell? ⟨g6, 8, none⟩ = some (.int .i64 cver) := fun ob => (sup_cells (s := (Sup.mk cgen cep cblk clog cst cpl crt ccnt cver)) (((AL ob).block _ (lt_of_heap Y11.out.1.b6)).trans Y11.out.1.b6)).2.2.2.2.2.2.2.2
              have r0 : ∀ ob, (w11.alloc ob).cell? ⟨g9, 0, none⟩ = some (.int .i64 ngen) := fun ob => (sup_cells (s := (Sup.mk ngen nep nblk nlog nst npl nrt ncnt nver)) (((AL ob).block _ (lt_of_heap Y11.out.1.b9)).trans Y11.out.1.b9)).1
              have r1 : ∀ ob, (w11.alloc ob).cell? ⟨g9, 1, none⟩ = some (.int .i64 nep) := fun ob => (sup_cells (s := (Sup.mk ngen nep nblk nlog nst npl nrt ncnt nver)) (((AL ob).block _ (lt_of_heap Y11.out.1.b9)).trans Y11.out.1.b9)).2.1
              have r2 : ∀ ob, (w11.alloc ob).cell? ⟨g9, 2, none⟩ = some (.int .i64 nblk) := fun ob => (sup_cells (s := (Sup.mk ngen nep nblk nlog nst npl nrt ncnt nver)) (((AL ob).block _ (lt_of_heap Y11.out.1.b9)).trans Y11.out.1.b9)).2.2.1
              have r3 : ∀ ob, (w11.alloc ob).cell? ⟨g9, 3, none⟩ = some (.int .i64 nlog) := fun ob => (sup_cells (s := (Sup.mk ngen nep nblk nlog nst npl nrt ncnt nver)) (((AL ob).block _ (lt_of_heap Y11.out.1.b9)).trans Y11.out.1.b9)).2.2.2.1
              have r4 : ∀ ob, (w11.alloc ob).cell? ⟨g9, 4, none⟩ = some (.int .i64 nst) := fun ob => (sup_cells (s := (Sup.mk ngen nep nblk nlog nst npl nrt ncnt nver)) (((AL ob).block _ (lt_of_heap Y11.out.1.b9)).trans Y11.out.1.b9)).2.2.2.2.1
              have r5 : ∀ ob, (w11.alloc ob).cell? ⟨g9, 5, none⟩ = some (.int .i64 npl) := fun ob => (sup_cells (s := (Sup.mk ngen nep nblk nlog nst npl nrt ncnt nver)) (((AL ob).block _ (lt_of_heap Y11.out.1.b9)).trans Y11.out.1.b9)).2.2.2.2.2.1
              have r6 : ∀ ob, (w11.alloc ob).cell? ⟨g9, 6, none⟩ = some (.int .i64 nrt) := fun ob => (sup_cells (s := (Sup.mk ngen nep nblk nlog nst npl nrt ncnt nver)) (((AL ob).block _ (lt_of_heap Y11.out.1.b9)).trans Y11.out.1.b9)).2.2.2.2.2.2.1
              have r7 : ∀ ob, (w11.alloc ob).cell? ⟨g9, 7, none⟩ = some (.int .i64 ncnt) := fun ob => (sup_cells (s := (Sup.mk ngen nep nblk nlog nst npl nrt ncnt nver)) (((AL ob).block _ (lt_of_heap Y11.out.1.b9)).trans Y11.out.1.b9)).2.2.2.2.2.2.2.1
              have r8 : ∀ ob, (w11.alloc ob).cell? ⟨g9, 8, none⟩ = some (.int .i64 nver) := fun ob => (sup_cells (s := (Sup.mk ngen nep nblk nlog nst npl nrt ncnt nver)) (((AL ob).block _ (lt_of_heap Y11.out.1.b9)).trans Y11.out.1.b9)).2.2.2.2.2.2.2.2
              have YF : Hid (∀ ob, Wy w (w11.alloc ob) (dm + 2) dm (dm + 1) cvt (rdk T 2) g6 g8 g9 (Sup.mk cgen cep cblk clog cst cpl crt ccnt cver) (Sup.mk ngen nep nblk nlog nst npl nrt ncnt nver) #[.int .i64 xgen, .int .i64 xep, .int .i64 xblk, .int .i64 xlog, .int .i64 xst, .int .i64 xpl, .int .i64 xrt, .int .i64 xcnt, .int .i64 xver, .int .i64 arm, .bool cr, (.slice af nf cf)]) := Lib.hid (fun ob => Y11.out.1.below (AL ob))
              clear y11 h14 AL RD2 Y10 D10
              have rem : ngen.tmod 2 = ngen % 2 := Int.tmod_eq_emod_of_nonneg (by have := GP.out; omega)
              have ene : (ngen == cgen) = false := by rw [beq_eq_false_iff_ne]; have := GP.out; omega
              clear Y11
              go_wp2_with (first | (refine wpList_store_row rfl 25 (.tmp 6) (.tmp 149) rfl g6 (Sup.mk ngen nep nblk nlog nst npl nrt ncnt nver).arr rfl rfl 25 (Sup.mk cgen cep cblk clog cst cpl crt ccnt cver).arr (YF.out _).b6 size_super rfl (arr_one _) ?_))
              go_roundg (n - (k + 1))
              case measure => have := G.out; omega
              case rel => exact ⟨k + 1, cvt, rdk T 2, (Sup.mk ngen nep nblk nlog nst npl nrt ncnt nver), by omega, rfl, by go_num, ((YF.out _).six _).dv, ((YF.out _).six _).b6, ((YF.out _).six _).bl, LO.out, TF.out.1, TF.out.2.1, TF.out.2.2.1, TI.out, by have := GK.out; have := GP.out; show ngen ≤ ((k + 1 : Nat) : Int); omega, TF.out.2.2.2⟩
      · have fa : decide (arm ≥ 0) = false := decide_eq_false ha
        have Y4 : Hid (Wy w (w3.alloc (.cells #[.int .i64 ngen, .int .i64 nep, .int .i64 nblk, .int .i64 nlog, .int .i64 nst, .int .i64 npl, .int .i64 nrt, .int .i64 ncnt, .int .i64 nver] 25)) (dm + 2) dm (dm + 1) cv ds g6 g8 g9 (Sup.mk cgen cep cblk clog cst cpl crt ccnt cver) (Sup.mk ngen nep nblk nlog nst npl nrt ncnt nver) #[.int .i64 xgen, .int .i64 xep, .int .i64 xblk, .int .i64 xlog, .int .i64 xst, .int .i64 xpl, .int .i64 xrt, .int .i64 xcnt, .int .i64 xver, .int .i64 arm, .bool cr, (.slice af nf cf)]) := Lib.hid (Y3.out _ rfl)
        obtain ⟨DD, hDD⟩ : ∃ D, D = ds := ⟨_, rfl⟩
        rw [← hDD] at Y4 SF SI
        have Y := Y4
        have DF := SF
        have DI := SI
        clear ha Y3 hDD SF SI Y4
        rcases wr_out (ds := DD) DF.out.2.1 DF.out.2.2.1 VN.out GN.out DI.out with ⟨e0, d0, c0, n0, ws0, iv0⟩ | ⟨e6, l6, n6, ws6, iv6⟩
        · have WX := Lib.hid (write_x Y.out (Sup.mk ngen nep nblk nlog nst npl nrt ncnt nver) (by have := DF.out.2.2.2; have := KN.out; omega) DF.out.2.1)
          rw [e0] at WX
          obtain ⟨E, hE⟩ : ∃ E, E = (wrA DD (Sup.mk ngen nep nblk nlog nst npl nrt ncnt nver)).1 := ⟨_, rfl⟩
          rw [← hE] at WX d0 c0 n0 ws0 iv0
          have EF : Hid (E.down = false ∧ E.cache = [] ∧ E.n = 64 ∧ E.ws ≤ k + 1) := Lib.hid ⟨d0, c0, n0, by have := DF.out.2.2.2; omega⟩
          have EI := Lib.hid iv0
          clear e0 d0 c0 n0 ws0 iv0 hE
          go_wp2_with fail
          refine WX.out.mono ?_
          rintro _ w5 ⟨cv5, rfl, y5⟩
          have Y5 := Lib.hid y5
          clear y5 WX Y
          obtain ⟨a0, a1, a2, a3, a4, a5, a6, a7, a8⟩ := sup_cells (s := (Sup.mk ngen nep nblk nlog nst npl nrt ncnt nver)) Y5.out.b9
          simp only at a0 a1 a2 a3 a4 a5 a6 a7 a8
          have Y6 : Hid (Wy w (w5.setRow g6 (Sup.mk ngen nep nblk nlog nst npl nrt ncnt nver).arr) (dm + 2) dm (dm + 1) cv5 E g6 g8 g9 (Sup.mk ngen nep nblk nlog nst npl nrt ncnt nver) (Sup.mk ngen nep nblk nlog nst npl nrt ncnt nver) #[.int .i64 xgen, .int .i64 xep, .int .i64 xblk, .int .i64 xlog, .int .i64 xst, .int .i64 xpl, .int .i64 xrt, .int .i64 xcnt, .int .i64 xver, .int .i64 arm, .bool cr, (.slice af nf cf)]) := Lib.hid (Y5.out.six (Sup.mk ngen nep nblk nlog nst npl nrt ncnt nver))
          obtain ⟨w6, hw6⟩ : ∃ W, W = w5.setRow g6 (Sup.mk ngen nep nblk nlog nst npl nrt ncnt nver).arr := ⟨_, rfl⟩
          rw [← hw6] at Y6
          have hw6' := hw6.symm
          have c10 : w6.cell? ⟨g8, 10, none⟩ = some (.bool cr) := by rw [cell_of_row _ _ _ _ _ _ Y6.out.b8]; rfl
          have c11 : w6.cell? ⟨g8, 11, none⟩ = some ((.slice af nf cf)) := by rw [cell_of_row _ _ _ _ _ _ Y6.out.b8]; rfl
          clear hw6
          have CZ : Hid (¬ ngen = 0) := Lib.hid (by have := GP.out; omega)
          cases cr with
          | true =>
            as_aux_lemma =>
              have OF := Lib.hid (ownFates_any ((.slice af nf cf)) fs w6 (FT.out w6 Y6.out.bl) FL.out)
              go_wp2_with (first | (refine wpList_store_row rfl 25 (.tmp 6) (.tmp 72) rfl g6 (Sup.mk ngen nep nblk nlog nst npl nrt ncnt nver).arr rfl rfl 25 (Sup.mk cgen cep cblk clog cst cpl crt ccnt cver).arr Y5.out.b6 size_super rfl (arr_one _) ?_; rw [hw6']))
              refine OF.out.mono ?_
              rintro _ w7 ⟨v7, rfl, o7, b7⟩
              have Y7 := Lib.hid (Y6.out.below b7)
              have CRS := Lib.hid (crash_x Y7.out (by rw [EF.out.2.1]; decide) o7)
              clear o7 b7 OF Y6 Y5 a0 a1 a2 a3 a4 a5 a6 a7 a8 c10 c11 hw6'
              go_wp2_with fail
              refine CRS.out.mono ?_
              rintro _ w7b ⟨⟨ic, rfl⟩, y7⟩
              have YT := Lib.hid y7
              obtain ⟨T, hT⟩ : ∃ T, T = crD E fs := ⟨_, rfl⟩
              rw [← hT] at YT
              have TF : Hid (T.down = false ∧ T.cache = [] ∧ T.n = 64 ∧ T.ws ≤ k + 1) := Lib.hid ⟨by rw [hT]; rfl, by rw [hT]; rfl, by rw [hT]; exact EF.out.2.2.1, by rw [hT]; exact EF.out.2.2.2⟩
              have TI : Hid (Iv T.med (Sup.mk ngen nep nblk nlog nst npl nrt ncnt nver)) := Lib.hid (by rw [hT]; show Iv (sets (fateAt fs) 0 E.cache E.med) (Sup.mk ngen nep nblk nlog nst npl nrt ncnt nver); rw [EF.out.2.1]; exact EI.out)
              clear y7 CRS Y7 hT EF EI
              obtain ⟨cvt, hcvt⟩ : ∃ v, v = Value.slice none 0 0 := ⟨_, rfl⟩
              rw [← hcvt] at YT
              clear hcvt
              have RDT : Hid (readU T = ((Sup.mk ngen nep nblk nlog nst npl nrt ncnt nver), (ngen % 2), 0) ∧ readU (newD 64 T.med) = ((Sup.mk ngen nep nblk nlog nst npl nrt ncnt nver), (ngen % 2), 0)) := Lib.hid (by
                have q1 := iv_read TI.out TF.out.2.1 TF.out.2.2.1
                have q2 := iv_read (D := newD 64 T.med) TI.out rfl rfl
                rw [if_neg (show ¬ (Sup.mk ngen nep nblk nlog nst npl nrt ncnt nver).gen = 0 from CZ.out)] at q1 q2
                exact ⟨q1, q2⟩)
              go_wp2_with fail
              refine (medium_x YT.out.dv).mono ?_
              rintro _ w8 ⟨am, nm, cm, rfl, o8, b8⟩
              have Y8 := Lib.hid (YT.out.below b8)
              have OFC := Lib.hid (of_ok _ T.med 64 w8 o8 TI.out.len (by decide) (by decide))
              obtain ⟨dc, hdc⟩ : ∃ n, n = w8.heap.size := ⟨_, rfl⟩
              have DLT : Hid (dm + 2 < dc ∧ w.heap.size ≤ dc) := Lib.hid (by have q1 := (YT.out.dv.foot_lt (dm + 2) (Or.inl rfl)).2; have q2 := b8.size; have q3 := YT.out.bl.size; omega)
              rw [← hdc] at OFC
              have HDC := Lib.hid hdc
              clear o8 b8 hdc YT
              go_wp2_with fail
              refine OFC.out.mono ?_
              rintro _ w9 ⟨rfl, b9, d9⟩
              have Y9 := Lib.hid (Y8.out.below (by have q := b9; rw [HDC.out] at q; exact q))
              have D9 := Lib.hid d9
              have RD1 : Hid (Calls Try.prog 13 #[.pointer (some ⟨dm + 2, 0, none⟩)] w9 fun e w' => e = .returned (.tuple #[.agg #[.int .i64 ngen, .int .i64 nep, .int .i64 nblk, .int .i64 nlog, .int .i64 nst, .int .i64 npl, .int .i64 nrt, .int .i64 ncnt, .int .i64 nver], .int .i64 (ngen % 2), .int .i64 0]) ∧ Wy w w' (dm + 2) dm (dm + 1) cvt (rdk T 2) g6 g8 g9 (Sup.mk ngen nep nblk nlog nst npl nrt ncnt nver) (Sup.mk ngen nep nblk nlog nst npl nrt ncnt nver) #[.int .i64 xgen, .int .i64 xep, .int .i64 xblk, .int .i64 xlog, .int .i64 xst, .int .i64 xpl, .int .i64 xrt, .int .i64 xcnt, .int .i64 xver, .int .i64 arm, .bool true, (.slice af nf cf)] ∧ Kept (fun k => k = dm + 2) w9 w') := Lib.hid (read_x Y9.out TF.out.1 ((Sup.mk ngen nep nblk nlog nst npl nrt ncnt nver), (ngen % 2), 0) RDT.out.1)
              clear b9 d9 Y8 OFC
              go_wp2_with fail
              refine RD1.out.mono ?_
              rintro _ w10 ⟨rfl, y10, k10⟩
              have Y10 := Lib.hid y10
              have D10 : Hid (Dv dc w10 (dc + 2) dc (dc + 1) (.slice none 0 0) (newD 64 T.med)) := Lib.hid (D9.out.kept k10 (fun k hk e => by have := (D9.out.foot_lt k hk).1; have := DLT.out.1; omega))
              obtain ⟨g14, hg14⟩ : ∃ g, g = w10.heap.size := ⟨_, rfl⟩
              have hg14' := hg14.symm
              have H14 := Lib.hid hg14
              clear y10 k10 RD1 Y9 D9 hg14
              have RD2 : Hid (Calls Try.prog 13 #[.pointer (some ⟨dc + 2, 0, none⟩)] (w10.alloc (.cells #[.int .i64 ngen, .int .i64 nep, .int .i64 nblk, .int .i64 nlog, .int .i64 nst, .int .i64 npl, .int .i64 nrt, .int .i64 ncnt, .int .i64 nver] 25)) fun e w' => e = .returned (.tuple #[.agg #[.int .i64 ngen, .int .i64 nep, .int .i64 nblk, .int .i64 nlog, .int .i64 nst, .int .i64 npl, .int .i64 nrt, .int .i64 ncnt, .int .i64 nver], .int .i64 (ngen % 2), .int .i64 0]) ∧ Wy w w' (dm + 2) dm (dm + 1) cvt (rdk T 2) g6 g8 g9 (Sup.mk ngen nep nblk nlog nst npl nrt ncnt nver) (Sup.mk ngen nep nblk nlog nst npl nrt ncnt nver) #[.int .i64 xgen, .int .i64 xep, .int .i64 xblk, .int .i64 xlog, .int .i64 xst, .int .i64 xpl, .int .i64 xrt, .int .i64 xcnt, .int .i64 xver, .int .i64 arm, .bool true, (.slice af nf cf)] ∧ w'.heap[g14]? = some (.cells (Sup.mk ngen nep nblk nlog nst npl nrt ncnt nver).arr 25 (0, 0))) := Lib.hid (by
                have q0 : Below w10.heap.size w10 (w10.alloc (.cells #[.int .i64 ngen, .int .i64 nep, .int .i64 nblk, .int .i64 nlog, .int .i64 nst, .int .i64 npl, .int .i64 nrt, .int .i64 ncnt, .int .i64 nver] 25)) := (Below.refl _ _).alloc (Nat.le_refl _) _
                have q1 := read_up (D10.out.below q0) rfl
                rw [RDT.out.2] at q1
                refine q1.mono ?_
                rintro e w' ⟨rfl, h1, h2⟩
                have q2 := (D10.out.foot_lt (dc + 2) (Or.inl rfl)).2
                refine ⟨rfl, (Y10.out.below q0).other (D10.out.below q0) (by have := DLT.out.1; omega) (by have := DLT.out.2; omega) h2, ?_⟩
                rw [H14.out, h2.block _ (by simp) (by omega)]
                exact heap_alloc_new _ _)
              go_wp2_with fail
              refine RD2.out.mono ?_
              rintro _ w11 ⟨rfl, y11, h14⟩
              have Y11 := Lib.hid (And.intro y11 h14)
              have AL : ∀ ob, Below w11.heap.size w11 (w11.alloc ob) := fun ob => (Below.refl _ _).alloc (Nat.le_refl _) ob
              have p0 : ∀ ob, (w11.alloc ob).cell? ⟨g14, 0, none⟩ = some (.int .i64 ngen) := fun ob => (sup_cells (s := (Sup.mk ngen nep nblk nlog nst npl nrt ncnt nver)) (((AL ob).block _ (lt_of_heap Y11.out.2)).trans Y11.out.2)).1
              have p1 : ∀ ob, (w11.alloc ob).cell? ⟨g14, 1, none⟩ = some (.int .i64 nep) := fun ob => (sup_cells (s := (Sup.mk ngen nep nblk nlog nst npl nrt ncnt nver)) (((AL ob).block _ (lt_of_heap Y11.out.2)).trans Y11.out.2)).2.1
              have p2 : ∀ ob, (w11.alloc ob).cell? ⟨g14, 2, none⟩ = some (.int .i64 nblk) := fun ob => (sup_cells (s := (Sup.mk ngen nep nblk nlog nst npl nrt ncnt nver)) (((AL ob).block _ (lt_of_heap Y11.out.2)).trans Y11.out.2)).2.2.1
              have p3 : ∀ ob, (w11.alloc ob).cell? ⟨g14, 3, none⟩ = some (.int .i64 nlog) := fun ob => (sup_cells (s := (Sup.mk ngen nep nblk nlog nst npl nrt ncnt nver)) (((AL ob).block _ (lt_of_heap Y11.out.2)).trans Y11.out.2)).2.2.2.1
              have p4 : ∀ ob, (w11.alloc ob).cell? ⟨g14, 4, none⟩ = some (.int .i64 nst) := fun ob => (sup_cells (s := (Sup.mk ngen nep nblk nlog nst npl nrt ncnt nver)) (((AL ob).block _ (lt_of_heap Y11.out.2)).trans Y11.out.2)).2.2.2.2.1
              have p5 : ∀ ob, (w11.alloc ob).cell? ⟨g14, 5, none⟩ = some (.int .i64 npl) := fun ob => (sup_cells (s := (Sup.mk ngen nep nblk nlog nst npl nrt ncnt nver)) (((AL ob).block _ (lt_of_heap Y11.out.2)).trans Y11.out.2)).2.2.2.2.2.1
              have p6 : ∀ ob, (w11.alloc ob).cell? ⟨g14, 6, none⟩ = some (.int .i64 nrt) := fun ob => (sup_cells (s := (Sup.mk ngen nep nblk nlog nst npl nrt ncnt nver)) (((AL ob).block _ (lt_of_heap Y11.out.2)).trans Y11.out.2)).2.2.2.2.2.2.1
              have p7 : ∀ ob, (w11.alloc ob).cell? ⟨g14, 7, none⟩ = some (.int .i64 ncnt) := fun ob => (sup_cells (s := (Sup.mk ngen nep nblk nlog nst npl nrt ncnt nver)) (((AL ob).block _ (lt_of_heap Y11.out.2)).trans Y11.out.2)).2.2.2.2.2.2.2.1
              have p8 : ∀ ob, (w11.alloc ob).cell? ⟨g14, 8, none⟩ = some (.int .i64 nver) := fun ob => (sup_cells (s := (Sup.mk ngen nep nblk nlog nst npl nrt ncnt nver)) (((AL ob).block _ (lt_of_heap Y11.out.2)).trans Y11.out.2)).2.2.2.2.2.2.2.2
              have q0 : ∀ ob, (w11.alloc ob).cell? ⟨g6, 0, none⟩ = some (.int .i64 ngen) := fun ob => (sup_cells (s := (Sup.mk ngen nep nblk nlog nst npl nrt ncnt nver)) (((AL ob).block _ (lt_of_heap Y11.out.1.b6)).trans Y11.out.1.b6)).1
              have q1 : ∀ ob, (w11.alloc ob).cell? ⟨g6, 1, none⟩ = some (.int .i64 nep) := fun ob => (sup_cells (s := (Sup.mk ngen nep nblk nlog nst npl nrt ncnt nver)) (((AL ob).block _ (lt_of_heap Y11.out.1.b6)).trans Y11.out.1.b6)).2.1
              have q2 : ∀ ob, (w11.alloc ob).cell? ⟨g6, 2, none⟩ = some (.int .i64 nblk) := fun ob => (sup_cells (s := (Sup.mk ngen nep nblk nlog nst npl nrt ncnt nver)) (((AL ob).block _ (lt_of_heap Y11.out.1.b6)).trans Y11.out.1.b6)).2.2.1
              have q3 : ∀ ob, (w11.alloc ob).cell? ⟨g6, 3, none⟩ = some (.int .i64 nlog) := fun ob => (sup_cells (s := (Sup.mk ngen nep nblk nlog nst npl nrt ncnt nver)) (((AL ob).block _ (lt_of_heap Y11.out.1.b6)).trans Y11.out.1.b6)).2.2.2.1
              have q4 : ∀ ob, (w11.alloc ob).cell? ⟨g6, 4, none⟩ = some (.int .i64 nst) := fun ob => (sup_cells (s := (Sup.mk ngen nep nblk nlog nst npl nrt ncnt nver)) (((AL ob).block _ (lt_of_heap Y11.out.1.b6)).trans Y11.out.1.b6)).2.2.2.2.1
              have q5 : ∀ ob, (w11.alloc ob).cell? ⟨g6, 5, none⟩ = some (.int .i64 npl) := fun ob => (sup_cells (s := (Sup.mk ngen nep nblk nlog nst npl nrt ncnt nver)) (((AL ob).block _ (lt_of_heap Y11.out.1.b6)).trans Y11.out.1.b6)).2.2.2.2.2.1
              have q6 : ∀ ob, (w11.alloc ob).cell? ⟨g6, 6, none⟩ = some (.int .i64 nrt) := fun ob => (sup_cells (s := (Sup.mk ngen nep nblk nlog nst npl nrt ncnt nver)) (((AL ob).block _ (lt_of_heap Y11.out.1.b6)).trans Y11.out.1.b6)).2.2.2.2.2.2.1
              have q7 : ∀ ob, (w11.alloc ob).cell? ⟨g6, 7, none⟩ = some (.int .i64 ncnt) := fun ob => (sup_cells (s := (Sup.mk ngen nep nblk nlog nst npl nrt ncnt nver)) (((AL ob).block _ (lt_of_heap Y11.out.1.b6)).trans Y11.out.1.b6)).2.2.2.2.2.2.2.1
              have q8 : ∀ ob, (w11.alloc ob).cell? ⟨g6, 8, none⟩ = some (.int .i64 nver) := fun ob => (sup_cells (s := (Sup.mk ngen nep nblk nlog nst npl nrt ncnt nver)) (((AL ob).block _ (lt_of_heap Y11.out.1.b6)).trans Y11.out.1.b6)).2.2.2.2.2.2.2.2
              have r0 : ∀ ob, (w11.alloc ob).cell? ⟨g9, 0, none⟩ = some (.int .i64 ngen) := fun ob => (sup_cells (s := (Sup.mk ngen nep nblk nlog nst npl nrt ncnt nver)) (((AL ob).block _ (lt_of_heap Y11.out.1.b9)).trans Y11.out.1.b9)).1
              have r1 : ∀ ob, (w11.alloc ob).cell? ⟨g9, 1, none⟩ = some (.int .i64 nep) := fun ob => (sup_cells (s := (Sup.mk ngen nep nblk nlog nst npl nrt ncnt nver)) (((AL ob).block _ (lt_of_heap Y11.out.1.b9)).trans Y11.out.1.b9)).2.1
              have r2 : ∀ ob, (w11.alloc ob).cell? ⟨g9, 2, none⟩ = some (.int .i64 nblk) := fun ob => (sup_cells (s := (Sup.mk ngen nep nblk nlog nst npl nrt ncnt nver)) (((AL ob).block _ (lt_of_heap Y11.out.1.b9)).trans Y11.out.1.b9)).2.2.1
              have r3 : ∀ ob, (w11.alloc ob).cell? ⟨g9, 3, none⟩ = some (.int .i64 nlog) := fun ob => (sup_cells (s := (Sup.mk ngen nep nblk nlog nst npl nrt ncnt nver)) (((AL ob).block _ (lt_of_heap Y11.out.1.b9)).trans Y11.out.1.b9)).2.2.2.1
              have r4 : ∀ ob, (w11.alloc ob).cell? ⟨g9, 4, none⟩ = some (.int .i64 nst) := fun ob => (sup_cells (s := (Sup.mk ngen nep nblk nlog nst npl nrt ncnt nver)) (((AL ob).block _ (lt_of_heap Y11.out.1.b9)).trans Y11.out.1.b9)).2.2.2.2.1
              have r5 : ∀ ob, (w11.alloc ob).cell? ⟨g9, 5, none⟩ = some (.int .i64 npl) := fun ob => (sup_cells (s := (Sup.mk ngen nep nblk nlog nst npl nrt ncnt nver)) (((AL ob).block _ (lt_of_heap Y11.out.1.b9)).trans Y11.out.1.b9)).2.2.2.2.2.1
              have r6 : ∀ ob, (w11.alloc ob).cell? ⟨g9, 6, none⟩ = some (.int .i64 nrt) := fun ob => (sup_cells (s := (Sup.mk ngen nep nblk nlog nst npl nrt ncnt nver)) (((AL ob).block _ (lt_of_heap Y11.out.1.b9)).trans Y11.out.1.b9)).2.2.2.2.2.2.1
              have r7 : ∀ ob, (w11.alloc ob).cell? ⟨g9, 7, none⟩ = some (.int .i64 ncnt) := fun ob => (sup_cells (s := (Sup.mk ngen nep nblk nlog nst npl nrt ncnt nver)) (((AL ob).block _ (lt_of_heap Y11.out.1.b9)).trans Y11.out.1.b9)).2.2.2.2.2.2.2.1
              have r8 : ∀ ob, (w11.alloc ob).cell? ⟨g9, 8, none⟩ = some (.int .i64 nver) := fun ob => (sup_cells (s := (Sup.mk ngen nep nblk nlog nst npl nrt ncnt nver)) (((AL ob).block _ (lt_of_heap Y11.out.1.b9)).trans Y11.out.1.b9)).2.2.2.2.2.2.2.2
              have YF : Hid (∀ ob, Wy w (w11.alloc ob) (dm + 2) dm (dm + 1) cvt (rdk T 2) g6 g8 g9 (Sup.mk ngen nep nblk nlog nst npl nrt ncnt nver) (Sup.mk ngen nep nblk nlog nst npl nrt ncnt nver) #[.int .i64 xgen, .int .i64 xep, .int .i64 xblk, .int .i64 xlog, .int .i64 xst, .int .i64 xpl, .int .i64 xrt, .int .i64 xcnt, .int .i64 xver, .int .i64 arm, .bool true, (.slice af nf cf)]) := Lib.hid (fun ob => Y11.out.1.below (AL ob))
              clear y11 h14 AL RD2 Y10 D10
              have rem : ngen.tmod 2 = ngen % 2 := Int.tmod_eq_emod_of_nonneg (by have := GP.out; omega)
              clear Y11
              go_wp2_with (first | (refine wpList_store_row rfl 25 (.tmp 6) (.tmp 149) rfl g6 (Sup.mk ngen nep nblk nlog nst npl nrt ncnt nver).arr rfl rfl 25 (Sup.mk ngen nep nblk nlog nst npl nrt ncnt nver).arr (YF.out _).b6 size_super rfl (arr_one _) ?_))
              go_roundg (n - (k + 1))
              case measure => have := G.out; omega
              case rel => exact ⟨k + 1, cvt, rdk T 2, (Sup.mk ngen nep nblk nlog nst npl nrt ncnt nver), by omega, rfl, by go_num, ((YF.out _).six _).dv, ((YF.out _).six _).b6, ((YF.out _).six _).bl, LO.out, TF.out.1, TF.out.2.1, TF.out.2.2.1, TI.out, by have := GK.out; have := GP.out; show ngen ≤ ((k + 1 : Nat) : Int); omega, TF.out.2.2.2⟩
          | false =>
            as_aux_lemma =>
              have DW := Lib.hid (down_any Y6.out.dv)
              rw [EF.out.1] at DW
              go_wp2_with (first | (refine wpList_store_row rfl 25 (.tmp 6) (.tmp 72) rfl g6 (Sup.mk ngen nep nblk nlog nst npl nrt ncnt nver).arr rfl rfl 25 (Sup.mk cgen cep cblk clog cst cpl crt ccnt cver).arr Y5.out.b6 size_super rfl (arr_one _) ?_; rw [hw6']))
              refine DW.out.mono ?_
              rintro _ w7 ⟨rfl, e7⟩
              obtain rfl := e7.symm
              have YT := Lib.hid Y6.out
              obtain ⟨T, hT⟩ : ∃ T, T = E := ⟨_, rfl⟩
              rw [← hT] at YT EF EI
              have TF := EF
              have TI := EI
              obtain ⟨cvt, hcvt⟩ : ∃ v, v = cv5 := ⟨_, rfl⟩
              rw [← hcvt] at YT
              clear DW Y6 Y5 a0 a1 a2 a3 a4 a5 a6 a7 a8 c10 c11 hw6' hT EF EI e7 hcvt
              have RDT : Hid (readU T = ((Sup.mk ngen nep nblk nlog nst npl nrt ncnt nver), (ngen % 2), 0) ∧ readU (newD 64 T.med) = ((Sup.mk ngen nep nblk nlog nst npl nrt ncnt nver), (ngen % 2), 0)) := Lib.hid (by
                have q1 := iv_read TI.out TF.out.2.1 TF.out.2.2.1
                have q2 := iv_read (D := newD 64 T.med) TI.out rfl rfl
                rw [if_neg (show ¬ (Sup.mk ngen nep nblk nlog nst npl nrt ncnt nver).gen = 0 from CZ.out)] at q1 q2
                exact ⟨q1, q2⟩)
              go_wp2_with fail
              refine (medium_x YT.out.dv).mono ?_
              rintro _ w8 ⟨am, nm, cm, rfl, o8, b8⟩
              have Y8 := Lib.hid (YT.out.below b8)
              have OFC := Lib.hid (of_ok _ T.med 64 w8 o8 TI.out.len (by decide) (by decide))
              obtain ⟨dc, hdc⟩ : ∃ n, n = w8.heap.size := ⟨_, rfl⟩
              have DLT : Hid (dm + 2 < dc ∧ w.heap.size ≤ dc) := Lib.hid (by have q1 := (YT.out.dv.foot_lt (dm + 2) (Or.inl rfl)).2; have q2 := b8.size; have q3 := YT.out.bl.size; omega)
              rw [← hdc] at OFC
              have HDC := Lib.hid hdc
              clear o8 b8 hdc YT
              go_wp2_with fail
              refine OFC.out.mono ?_
              rintro _ w9 ⟨rfl, b9, d9⟩
              have Y9 := Lib.hid (Y8.out.below (by have q := b9; rw [HDC.out] at q; exact q))
              have D9 := Lib.hid d9
              have RD1 : Hid (Calls Try.prog 13 #[.pointer (some ⟨dm + 2, 0, none⟩)] w9 fun e w' => e = .returned (.tuple #[.agg #[.int .i64 ngen, .int .i64 nep, .int .i64 nblk, .int .i64 nlog, .int .i64 nst, .int .i64 npl, .int .i64 nrt, .int .i64 ncnt, .int .i64 nver], .int .i64 (ngen % 2), .int .i64 0]) ∧ Wy w w' (dm + 2) dm (dm + 1) cvt (rdk T 2) g6 g8 g9 (Sup.mk ngen nep nblk nlog nst npl nrt ncnt nver) (Sup.mk ngen nep nblk nlog nst npl nrt ncnt nver) #[.int .i64 xgen, .int .i64 xep, .int .i64 xblk, .int .i64 xlog, .int .i64 xst, .int .i64 xpl, .int .i64 xrt, .int .i64 xcnt, .int .i64 xver, .int .i64 arm, .bool false, (.slice af nf cf)] ∧ Kept (fun k => k = dm + 2) w9 w') := Lib.hid (read_x Y9.out TF.out.1 ((Sup.mk ngen nep nblk nlog nst npl nrt ncnt nver), (ngen % 2), 0) RDT.out.1)
              clear b9 d9 Y8 OFC
              go_wp2_with fail
              refine RD1.out.mono ?_
              rintro _ w10 ⟨rfl, y10, k10⟩
              have Y10 := Lib.hid y10
              have D10 : Hid (Dv dc w10 (dc + 2) dc (dc + 1) (.slice none 0 0) (newD 64 T.med)) := Lib.hid (D9.out.kept k10 (fun k hk e => by have := (D9.out.foot_lt k hk).1; have := DLT.out.1; omega))
              obtain ⟨g14, hg14⟩ : ∃ g, g = w10.heap.size := ⟨_, rfl⟩
              have hg14' := hg14.symm
              have H14 := Lib.hid hg14
              clear y10 k10 RD1 Y9 D9 hg14
              have RD2 : Hid (Calls Try.prog 13 #[.pointer (some ⟨dc + 2, 0, none⟩)] (w10.alloc (.cells #[.int .i64 ngen, .int .i64 nep, .int .i64 nblk, .int .i64 nlog, .int .i64 nst, .int .i64 npl, .int .i64 nrt, .int .i64 ncnt, .int .i64 nver] 25)) fun e w' => e = .returned (.tuple #[.agg #[.int .i64 ngen, .int .i64 nep, .int .i64 nblk, .int .i64 nlog, .int .i64 nst, .int .i64 npl, .int .i64 nrt, .int .i64 ncnt, .int .i64 nver], .int .i64 (ngen % 2), .int .i64 0]) ∧ Wy w w' (dm + 2) dm (dm + 1) cvt (rdk T 2) g6 g8 g9 (Sup.mk ngen nep nblk nlog nst npl nrt ncnt nver) (Sup.mk ngen nep nblk nlog nst npl nrt ncnt nver) #[.int .i64 xgen, .int .i64 xep, .int .i64 xblk, .int .i64 xlog, .int .i64 xst, .int .i64 xpl, .int .i64 xrt, .int .i64 xcnt, .int .i64 xver, .int .i64 arm, .bool false, (.slice af nf cf)] ∧ w'.heap[g14]? = some (.cells (Sup.mk ngen nep nblk nlog nst npl nrt ncnt nver).arr 25 (0, 0))) := Lib.hid (by
                have q0 : Below w10.heap.size w10 (w10.alloc (.cells #[.int .i64 ngen, .int .i64 nep, .int .i64 nblk, .int .i64 nlog, .int .i64 nst, .int .i64 npl, .int .i64 nrt, .int .i64 ncnt, .int .i64 nver] 25)) := (Below.refl _ _).alloc (Nat.le_refl _) _
                have q1 := read_up (D10.out.below q0) rfl
                rw [RDT.out.2] at q1
                refine q1.mono ?_
                rintro e w' ⟨rfl, h1, h2⟩
                have q2 := (D10.out.foot_lt (dc + 2) (Or.inl rfl)).2
                refine ⟨rfl, (Y10.out.below q0).other (D10.out.below q0) (by have := DLT.out.1; omega) (by have := DLT.out.2; omega) h2, ?_⟩
                rw [H14.out, h2.block _ (by simp) (by omega)]
                exact heap_alloc_new _ _)
              go_wp2_with fail
              refine RD2.out.mono ?_
              rintro _ w11 ⟨rfl, y11, h14⟩
              have Y11 := Lib.hid (And.intro y11 h14)
              have AL : ∀ ob, Below w11.heap.size w11 (w11.alloc ob) := fun ob => (Below.refl _ _).alloc (Nat.le_refl _) ob
              have p0 : ∀ ob, (w11.alloc ob).cell? ⟨g14, 0, none⟩ = some (.int .i64 ngen) := fun ob => (sup_cells (s := (Sup.mk ngen nep nblk nlog nst npl nrt ncnt nver)) (((AL ob).block _ (lt_of_heap Y11.out.2)).trans Y11.out.2)).1
              have p1 : ∀ ob, (w11.alloc ob).cell? ⟨g14, 1, none⟩ = some (.int .i64 nep) := fun ob => (sup_cells (s := (Sup.mk ngen nep nblk nlog nst npl nrt ncnt nver)) (((AL ob).block _ (lt_of_heap Y11.out.2)).trans Y11.out.2)).2.1
              have p2 : ∀ ob, (w11.alloc ob).cell? ⟨g14, 2, none⟩ = some (.int .i64 nblk) := fun ob => (sup_cells (s := (Sup.mk ngen nep nblk nlog nst npl nrt ncnt nver)) (((AL ob).block _ (lt_of_heap Y11.out.2)).trans Y11.out.2)).2.2.1
              have p3 : ∀ ob, (w11.alloc ob).cell? ⟨g14, 3, none⟩ = some (.int .i64 nlog) := fun ob => (sup_cells (s := (Sup.mk ngen nep nblk nlog nst npl nrt ncnt nver)) (((AL ob).block _ (lt_of_heap Y11.out.2)).trans Y11.out.2)).2.2.2.1
              have p4 : ∀ ob, (w11.alloc ob).cell? ⟨g14, 4, none⟩ = some (.int .i64 nst) := fun ob => (sup_cells (s := (Sup.mk ngen nep nblk nlog nst npl nrt ncnt nver)) (((AL ob).block _ (lt_of_heap Y11.out.2)).trans Y11.out.2)).2.2.2.2.1
              have p5 : ∀ ob, (w11.alloc ob).cell? ⟨g14, 5, none⟩ = some (.int .i64 npl) := fun ob => (sup_cells (s := (Sup.mk ngen nep nblk nlog nst npl nrt ncnt nver)) (((AL ob).block _ (lt_of_heap Y11.out.2)).trans Y11.out.2)).2.2.2.2.2.1
              have p6 : ∀ ob, (w11.alloc ob).cell? ⟨g14, 6, none⟩ = some (.int .i64 nrt) := fun ob => (sup_cells (s := (Sup.mk ngen nep nblk nlog nst npl nrt ncnt nver)) (((AL ob).block _ (lt_of_heap Y11.out.2)).trans Y11.out.2)).2.2.2.2.2.2.1
              have p7 : ∀ ob, (w11.alloc ob).cell? ⟨g14, 7, none⟩ = some (.int .i64 ncnt) := fun ob => (sup_cells (s := (Sup.mk ngen nep nblk nlog nst npl nrt ncnt nver)) (((AL ob).block _ (lt_of_heap Y11.out.2)).trans Y11.out.2)).2.2.2.2.2.2.2.1
              have p8 : ∀ ob, (w11.alloc ob).cell? ⟨g14, 8, none⟩ = some (.int .i64 nver) := fun ob => (sup_cells (s := (Sup.mk ngen nep nblk nlog nst npl nrt ncnt nver)) (((AL ob).block _ (lt_of_heap Y11.out.2)).trans Y11.out.2)).2.2.2.2.2.2.2.2
              have q0 : ∀ ob, (w11.alloc ob).cell? ⟨g6, 0, none⟩ = some (.int .i64 ngen) := fun ob => (sup_cells (s := (Sup.mk ngen nep nblk nlog nst npl nrt ncnt nver)) (((AL ob).block _ (lt_of_heap Y11.out.1.b6)).trans Y11.out.1.b6)).1
              have q1 : ∀ ob, (w11.alloc ob).cell? ⟨g6, 1, none⟩ = some (.int .i64 nep) := fun ob => (sup_cells (s := (Sup.mk ngen nep nblk nlog nst npl nrt ncnt nver)) (((AL ob).block _ (lt_of_heap Y11.out.1.b6)).trans Y11.out.1.b6)).2.1
              have q2 : ∀ ob, (w11.alloc ob).cell? ⟨g6, 2, none⟩ = some (.int .i64 nblk) := fun ob => (sup_cells (s := (Sup.mk ngen nep nblk nlog nst npl nrt ncnt nver)) (((AL ob).block _ (lt_of_heap Y11.out.1.b6)).trans Y11.out.1.b6)).2.2.1
              have q3 : ∀ ob, (w11.alloc ob).cell? ⟨g6, 3, none⟩ = some (.int .i64 nlog) := fun ob => (sup_cells (s := (Sup.mk ngen nep nblk nlog nst npl nrt ncnt nver)) (((AL ob).block _ (lt_of_heap Y11.out.1.b6)).trans Y11.out.1.b6)).2.2.2.1
              have q4 : ∀ ob, (w11.alloc ob).cell? ⟨g6, 4, none⟩ = some (.int .i64 nst) := fun ob => (sup_cells (s := (Sup.mk ngen nep nblk nlog nst npl nrt ncnt nver)) (((AL ob).block _ (lt_of_heap Y11.out.1.b6)).trans Y11.out.1.b6)).2.2.2.2.1
              have q5 : ∀ ob, (w11.alloc ob).cell? ⟨g6, 5, none⟩ = some (.int .i64 npl) := fun ob => (sup_cells (s := (Sup.mk ngen nep nblk nlog nst npl nrt ncnt nver)) (((AL ob).block _ (lt_of_heap Y11.out.1.b6)).trans Y11.out.1.b6)).2.2.2.2.2.1
              have q6 : ∀ ob, (w11.alloc ob).cell? ⟨g6, 6, none⟩ = some (.int .i64 nrt) := fun ob => (sup_cells (s := (Sup.mk ngen nep nblk nlog nst npl nrt ncnt nver)) (((AL ob).block _ (lt_of_heap Y11.out.1.b6)).trans Y11.out.1.b6)).2.2.2.2.2.2.1
              have q7 : ∀ ob, (w11.alloc ob).cell? ⟨g6, 7, none⟩ = some (.int .i64 ncnt) := fun ob => (sup_cells (s := (Sup.mk ngen nep nblk nlog nst npl nrt ncnt nver)) (((AL ob).block _ (lt_of_heap Y11.out.1.b6)).trans Y11.out.1.b6)).2.2.2.2.2.2.2.1
              have q8 : ∀ ob, (w11.alloc ob).cell? ⟨g6, 8, none⟩ = some (.int .i64 nver) := fun ob => (sup_cells (s := (Sup.mk ngen nep nblk nlog nst npl nrt ncnt nver)) (((AL ob).block _ (lt_of_heap Y11.out.1.b6)).trans Y11.out.1.b6)).2.2.2.2.2.2.2.2
              have r0 : ∀ ob, (w11.alloc ob).cell? ⟨g9, 0, none⟩ = some (.int .i64 ngen) := fun ob => (sup_cells (s := (Sup.mk ngen nep nblk nlog nst npl nrt ncnt nver)) (((AL ob).block _ (lt_of_heap Y11.out.1.b9)).trans Y11.out.1.b9)).1
              have r1 : ∀ ob, (w11.alloc ob).cell? ⟨g9, 1, none⟩ = some (.int .i64 nep) := fun ob => (sup_cells (s := (Sup.mk ngen nep nblk nlog nst npl nrt ncnt nver)) (((AL ob).block _ (lt_of_heap Y11.out.1.b9)).trans Y11.out.1.b9)).2.1
              have r2 : ∀ ob, (w11.alloc ob).cell? ⟨g9, 2, none⟩ = some (.int .i64 nblk) := fun ob => (sup_cells (s := (Sup.mk ngen nep nblk nlog nst npl nrt ncnt nver)) (((AL ob).block _ (lt_of_heap Y11.out.1.b9)).trans Y11.out.1.b9)).2.2.1
              have r3 : ∀ ob, (w11.alloc ob).cell? ⟨g9, 3, none⟩ = some (.int .i64 nlog) := fun ob => (sup_cells (s := (Sup.mk ngen nep nblk nlog nst npl nrt ncnt nver)) (((AL ob).block _ (lt_of_heap Y11.out.1.b9)).trans Y11.out.1.b9)).2.2.2.1
              have r4 : ∀ ob, (w11.alloc ob).cell? ⟨g9, 4, none⟩ = some (.int .i64 nst) := fun ob => (sup_cells (s := (Sup.mk ngen nep nblk nlog nst npl nrt ncnt nver)) (((AL ob).block _ (lt_of_heap Y11.out.1.b9)).trans Y11.out.1.b9)).2.2.2.2.1
              have r5 : ∀ ob, (w11.alloc ob).cell? ⟨g9, 5, none⟩ = some (.int .i64 npl) := fun ob => (sup_cells (s := (Sup.mk ngen nep nblk nlog nst npl nrt ncnt nver)) (((AL ob).block _ (lt_of_heap Y11.out.1.b9)).trans Y11.out.1.b9)).2.2.2.2.2.1
              have r6 : ∀ ob, (w11.alloc ob).cell? ⟨g9, 6, none⟩ = some (.int .i64 nrt) := fun ob => (sup_cells (s := (Sup.mk ngen nep nblk nlog nst npl nrt ncnt nver)) (((AL ob).block _ (lt_of_heap Y11.out.1.b9)).trans Y11.out.1.b9)).2.2.2.2.2.2.1
              have r7 : ∀ ob, (w11.alloc ob).cell? ⟨g9, 7, none⟩ = some (.int .i64 ncnt) := fun ob => (sup_cells (s := (Sup.mk ngen nep nblk nlog nst npl nrt ncnt nver)) (((AL ob).block _ (lt_of_heap Y11.out.1.b9)).trans Y11.out.1.b9)).2.2.2.2.2.2.2.1
              have r8 : ∀ ob, (w11.alloc ob).cell? ⟨g9, 8, none⟩ = some (.int .i64 nver) := fun ob => (sup_cells (s := (Sup.mk ngen nep nblk nlog nst npl nrt ncnt nver)) (((AL ob).block _ (lt_of_heap Y11.out.1.b9)).trans Y11.out.1.b9)).2.2.2.2.2.2.2.2
              have YF : Hid (∀ ob, Wy w (w11.alloc ob) (dm + 2) dm (dm + 1) cvt (rdk T 2) g6 g8 g9 (Sup.mk ngen nep nblk nlog nst npl nrt ncnt nver) (Sup.mk ngen nep nblk nlog nst npl nrt ncnt nver) #[.int .i64 xgen, .int .i64 xep, .int .i64 xblk, .int .i64 xlog, .int .i64 xst, .int .i64 xpl, .int .i64 xrt, .int .i64 xcnt, .int .i64 xver, .int .i64 arm, .bool false, (.slice af nf cf)]) := Lib.hid (fun ob => Y11.out.1.below (AL ob))
              clear y11 h14 AL RD2 Y10 D10
              have rem : ngen.tmod 2 = ngen % 2 := Int.tmod_eq_emod_of_nonneg (by have := GP.out; omega)
              clear Y11
              go_wp2_with (first | (refine wpList_store_row rfl 25 (.tmp 6) (.tmp 149) rfl g6 (Sup.mk ngen nep nblk nlog nst npl nrt ncnt nver).arr rfl rfl 25 (Sup.mk ngen nep nblk nlog nst npl nrt ncnt nver).arr (YF.out _).b6 size_super rfl (arr_one _) ?_))
              go_roundg (n - (k + 1))
              case measure => have := G.out; omega
              case rel => exact ⟨k + 1, cvt, rdk T 2, (Sup.mk ngen nep nblk nlog nst npl nrt ncnt nver), by omega, rfl, by go_num, ((YF.out _).six _).dv, ((YF.out _).six _).b6, ((YF.out _).six _).bl, LO.out, TF.out.1, TF.out.2.1, TF.out.2.2.1, TI.out, by have := GK.out; have := GP.out; show ngen ≤ ((k + 1 : Nat) : Int); omega, TF.out.2.2.2⟩
        · have WX := Lib.hid (write_x Y.out (Sup.mk ngen nep nblk nlog nst npl nrt ncnt nver) (by have := DF.out.2.2.2; have := KN.out; omega) DF.out.2.1)
          rw [e6] at WX
          obtain ⟨E, hE⟩ : ∃ E, E = (wrA DD (Sup.mk ngen nep nblk nlog nst npl nrt ncnt nver)).1 := ⟨_, rfl⟩
          rw [← hE] at WX l6 n6 ws6 iv6
          have EF : Hid (E.cache.length ≤ 1 ∧ E.n = 64 ∧ E.ws ≤ k + 1) := Lib.hid ⟨l6, n6, by have := DF.out.2.2.2; omega⟩
          have EI := Lib.hid (iv6 fs)
          clear e6 l6 n6 ws6 iv6 hE
          go_wp2_with fail
          refine WX.out.mono ?_
          rintro _ w5 ⟨cv5, rfl, y5⟩
          have Y5 := Lib.hid y5
          clear y5 WX Y
          have c11 : w5.cell? ⟨g8, 11, none⟩ = some ((.slice af nf cf)) := by rw [cell_of_row _ _ _ _ _ _ Y5.out.b8]; rfl
          have OF := Lib.hid (ownFates_any ((.slice af nf cf)) fs w5 (FT.out w5 Y5.out.bl) FL.out)
          go_wp2_with fail
          refine OF.out.mono ?_
          rintro _ w7 ⟨v7, rfl, o7, b7⟩
          have Y7 := Lib.hid (Y5.out.below b7)
          have CRS := Lib.hid (crash_x Y7.out EF.out.1 o7)
          clear o7 b7 OF Y5 c11
          go_wp2_with fail
          refine CRS.out.mono ?_
          rintro _ w7b ⟨⟨ic, rfl⟩, y7⟩
          have YT := Lib.hid y7
          obtain ⟨T, hT⟩ : ∃ T, T = crD E fs := ⟨_, rfl⟩
          rw [← hT] at YT EI
          have TF : Hid (T.down = false ∧ T.cache = [] ∧ T.n = 64 ∧ T.ws ≤ k + 1) := Lib.hid ⟨by rw [hT]; rfl, by rw [hT]; rfl, by rw [hT]; exact EF.out.2.1, by rw [hT]; exact EF.out.2.2⟩
          clear y7 CRS Y7 hT EF
          obtain ⟨cvt, hcvt⟩ : ∃ v, v = Value.slice none 0 0 := ⟨_, rfl⟩
          rw [← hcvt] at YT
          clear hcvt
          rcases EI.out with iv | iv
          · have TI := Lib.hid iv
            clear iv EI
            by_cases hz : cgen = 0
            · as_aux_lemma =>
                have CZ := Lib.hid hz
                clear hz
                have RDT : Hid (readU T = (zeroS, 0, 5) ∧ readU (newD 64 T.med) = (zeroS, 0, 5)) := Lib.hid (by
                  have q1 := iv_read TI.out TF.out.2.1 TF.out.2.2.1
                  have q2 := iv_read (D := newD 64 T.med) TI.out rfl rfl
                  rw [if_pos (show (Sup.mk cgen cep cblk clog cst cpl crt ccnt cver).gen = 0 from CZ.out)] at q1 q2
                  exact ⟨q1, q2⟩)
                go_wp2_with fail
                refine (medium_x YT.out.dv).mono ?_
                rintro _ w8 ⟨am, nm, cm, rfl, o8, b8⟩
                have Y8 := Lib.hid (YT.out.below b8)
                have OFC := Lib.hid (of_ok _ T.med 64 w8 o8 TI.out.len (by decide) (by decide))
                obtain ⟨dc, hdc⟩ : ∃ n, n = w8.heap.size := ⟨_, rfl⟩
                have DLT : Hid (dm + 2 < dc ∧ w.heap.size ≤ dc) := Lib.hid (by have q1 := (YT.out.dv.foot_lt (dm + 2) (Or.inl rfl)).2; have q2 := b8.size; have q3 := YT.out.bl.size; omega)
                rw [← hdc] at OFC
                have HDC := Lib.hid hdc
                clear o8 b8 hdc YT
                go_wp2_with fail
                refine OFC.out.mono ?_
                rintro _ w9 ⟨rfl, b9, d9⟩
                have Y9 := Lib.hid (Y8.out.below (by have q := b9; rw [HDC.out] at q; exact q))
                have D9 := Lib.hid d9
                have RD1 : Hid (Calls Try.prog 13 #[.pointer (some ⟨dm + 2, 0, none⟩)] w9 fun e w' => e = .returned (.tuple #[.agg #[.int .i64 0, .int .i64 0, .int .i64 0, .int .i64 0, .int .i64 0, .int .i64 0, .int .i64 0, .int .i64 0, .int .i64 0], .int .i64 0, .int .i64 5]) ∧ Wy w w' (dm + 2) dm (dm + 1) cvt (rdk T 2) g6 g8 g9 (Sup.mk cgen cep cblk clog cst cpl crt ccnt cver) (Sup.mk ngen nep nblk nlog nst npl nrt ncnt nver) #[.int .i64 xgen, .int .i64 xep, .int .i64 xblk, .int .i64 xlog, .int .i64 xst, .int .i64 xpl, .int .i64 xrt, .int .i64 xcnt, .int .i64 xver, .int .i64 arm, .bool cr, (.slice af nf cf)] ∧ Kept (fun k => k = dm + 2) w9 w') := Lib.hid (read_x Y9.out TF.out.1 (zeroS, 0, 5) RDT.out.1)
                clear b9 d9 Y8 OFC
                go_wp2_with fail
                refine RD1.out.mono ?_
                rintro _ w10 ⟨rfl, y10, k10⟩
                have Y10 := Lib.hid y10
                have D10 : Hid (Dv dc w10 (dc + 2) dc (dc + 1) (.slice none 0 0) (newD 64 T.med)) := Lib.hid (D9.out.kept k10 (fun k hk e => by have := (D9.out.foot_lt k hk).1; have := DLT.out.1; omega))
                obtain ⟨g14, hg14⟩ : ∃ g, g = w10.heap.size := ⟨_, rfl⟩
                have hg14' := hg14.symm
                have H14 := Lib.hid hg14
                clear y10 k10 RD1 Y9 D9 hg14
                have RD2 : Hid (Calls Try.prog 13 #[.pointer (some ⟨dc + 2, 0, none⟩)] (w10.alloc (.cells #[.int .i64 0, .int .i64 0, .int .i64 0, .int .i64 0, .int .i64 0, .int .i64 0, .int .i64 0, .int .i64 0, .int .i64 0] 25)) fun e w' => e = .returned (.tuple #[.agg #[.int .i64 0, .int .i64 0, .int .i64 0, .int .i64 0, .int .i64 0, .int .i64 0, .int .i64 0, .int .i64 0, .int .i64 0], .int .i64 0, .int .i64 5]) ∧ Wy w w' (dm + 2) dm (dm + 1) cvt (rdk T 2) g6 g8 g9 (Sup.mk cgen cep cblk clog cst cpl crt ccnt cver) (Sup.mk ngen nep nblk nlog nst npl nrt ncnt nver) #[.int .i64 xgen, .int .i64 xep, .int .i64 xblk, .int .i64 xlog, .int .i64 xst, .int .i64 xpl, .int .i64 xrt, .int .i64 xcnt, .int .i64 xver, .int .i64 arm, .bool cr, (.slice af nf cf)] ∧ w'.heap[g14]? = some (.cells zeroS.arr 25 (0, 0))) := Lib.hid (by
                  have q0 : Below w10.heap.size w10 (w10.alloc (.cells #[.int .i64 0, .int .i64 0, .int .i64 0, .int .i64 0, .int .i64 0, .int .i64 0, .int .i64 0, .int .i64 0, .int .i64 0] 25)) := (Below.refl _ _).alloc (Nat.le_refl _) _
                  have q1 := read_up (D10.out.below q0) rfl
                  rw [RDT.out.2] at q1
                  refine q1.mono ?_
                  rintro e w' ⟨rfl, h1, h2⟩
                  have q2 := (D10.out.foot_lt (dc + 2) (Or.inl rfl)).2
                  refine ⟨rfl, (Y10.out.below q0).other (D10.out.below q0) (by have := DLT.out.1; omega) (by have := DLT.out.2; omega) h2, ?_⟩
                  rw [H14.out, h2.block _ (by simp) (by omega)]
                  exact heap_alloc_new _ _)
                go_wp2_with fail
                refine RD2.out.mono ?_
                rintro _ w11 ⟨rfl, y11, h14⟩
                have Y11 := Lib.hid (And.intro y11 h14)
                have AL : ∀ ob, Below w11.heap.size w11 (w11.alloc ob) := fun ob => (Below.refl _ _).alloc (Nat.le_refl _) ob
                have p0 : ∀ ob, (w11.alloc ob).cell? ⟨g14, 0, none⟩ = some (.int .i64 0) := fun ob => (sup_cells (s := zeroS) (((AL ob).block _ (lt_of_heap Y11.out.2)).trans Y11.out.2)).1
                have p1 : ∀ ob, (w11.alloc ob).cell? ⟨g14, 1, none⟩ = some (.int .i64 0) := fun ob => (sup_cells (s := zeroS) (((AL ob).block _ (lt_of_heap Y11.out.2)).trans Y11.out.2)).2.1
                have p2 : ∀ ob, (w11.alloc ob).cell? ⟨g14, 2, none⟩ = some (.int .i64 0) := fun ob => (sup_cells (s := zeroS) (((AL ob).block _ (lt_of_heap Y11.out.2)).trans Y11.out.2)).2.2.1
                have p3 : ∀ ob, (w11.alloc ob).cell? ⟨g14, 3, none⟩ = some (.int .i64 0) := fun ob => (sup_cells (s := zeroS) (((AL ob).block _ (lt_of_heap Y11.out.2)).trans Y11.out.2)).2.2.2.1
                have p4 : ∀ ob, (w11.alloc ob).cell? ⟨g14, 4, none⟩ = some (.int .i64 0) := fun ob => (sup_cells (s := zeroS) (((AL ob).block _ (lt_of_heap Y11.out.2)).trans Y11.out.2)).2.2.2.2.1
                have p5 : ∀ ob, (w11.alloc ob).cell? ⟨g14, 5, none⟩ = some (.int .i64 0) := fun ob => (sup_cells (s := zeroS) (((AL ob).block _ (lt_of_heap Y11.out.2)).trans Y11.out.2)).2.2.2.2.2.1
                have p6 : ∀ ob, (w11.alloc ob).cell? ⟨g14, 6, none⟩ = some (.int .i64 0) := fun ob => (sup_cells (s := zeroS) (((AL ob).block _ (lt_of_heap Y11.out.2)).trans Y11.out.2)).2.2.2.2.2.2.1
                have p7 : ∀ ob, (w11.alloc ob).cell? ⟨g14, 7, none⟩ = some (.int .i64 0) := fun ob => (sup_cells (s := zeroS) (((AL ob).block _ (lt_of_heap Y11.out.2)).trans Y11.out.2)).2.2.2.2.2.2.2.1
                have p8 : ∀ ob, (w11.alloc ob).cell? ⟨g14, 8, none⟩ = some (.int .i64 0) := fun ob => (sup_cells (s := zeroS) (((AL ob).block _ (lt_of_heap Y11.out.2)).trans Y11.out.2)).2.2.2.2.2.2.2.2
                have q0 : ∀ ob, (w11.alloc ob).cell? ⟨g6, 0, none⟩ = some (.int .i64 cgen) := fun ob => (sup_cells (s := (Sup.mk cgen cep cblk clog cst cpl crt ccnt cver)) (((AL ob).block _ (lt_of_heap Y11.out.1.b6)).trans Y11.out.1.b6)).1
                have q1 : ∀ ob, (w11.alloc ob).cell? ⟨g6, 1, none⟩ = some (.int .i64 cep) := fun ob => (sup_cells (s := (Sup.mk cgen cep cblk clog cst cpl crt ccnt cver)) (((AL ob).block _ (lt_of_heap Y11.out.1.b6)).trans Y11.out.1.b6)).2.1
                have q2 : ∀ ob, (w11.alloc ob).cell? ⟨g6, 2, none⟩ = some (.int .i64 cblk) := fun ob => (sup_cells (s := (Sup.mk cgen cep cblk clog cst cpl crt ccnt cver)) (((AL ob).block _ (lt_of_heap Y11.out.1.b6)).trans Y11.out.1.b6)).2.2.1
                have q3 : ∀ ob, (w11.alloc ob).cell? ⟨g6, 3, none⟩ = some (.int .i64 clog) := fun ob => (sup_cells (s := (Sup.mk cgen cep cblk clog cst cpl crt ccnt cver)) (((AL ob).block _ (lt_of_heap Y11.out.1.b6)).trans Y11.out.1.b6)).2.2.2.1
                have q4 : ∀ ob, (w11.alloc ob).cell? ⟨g6, 4, none⟩ = some (.int .i64 cst) := fun ob => (sup_cells (s := (Sup.mk cgen cep cblk clog cst cpl crt ccnt cver)) (((AL ob).block _ (lt_of_heap Y11.out.1.b6)).trans Y11.out.1.b6)).2.2.2.2.1
                have q5 : ∀ ob, (w11.alloc ob).cell? ⟨g6, 5, none⟩ = some (.int .i64 cpl) := fun ob => (sup_cells (s := (Sup.mk cgen cep cblk clog cst cpl crt ccnt cver)) (((AL ob).block _ (lt_of_heap Y11.out.1.b6)).trans Y11.out.1.b6)).2.2.2.2.2.1
                have q6 : ∀ ob, (w11.alloc ob).cell? ⟨g6, 6, none⟩ = some (.int .i64 crt) := fun ob => (sup_cells (s := (Sup.mk cgen cep cblk clog cst cpl crt ccnt cver)) (((AL ob).block _ (lt_of_heap Y11.out.1.b6)).trans Y11.out.1.b6)).2.2.2.2.2.2.1
                have q7 : ∀ ob, (w11.alloc ob).cell? ⟨g6, 7, none⟩ = some (.int .i64 ccnt) := fun ob => (sup_cells (s := (Sup.mk cgen cep cblk clog cst cpl crt ccnt cver)) (((AL ob).block _ (lt_of_heap Y11.out.1.b6)).trans Y11.out.1.b6)).2.2.2.2.2.2.2.1
                have q8 : ∀ ob, (w11.alloc ob).cell? ⟨g6, 8, none⟩ = some (.int .i64 cver) := fun ob => (sup_cells (s := (Sup.mk cgen cep cblk clog cst cpl crt ccnt cver)) (((AL ob).block _ (lt_of_heap Y11.out.1.b6)).trans Y11.out.1.b6)).2.2.2.2.2.2.2.2
                have r0 : ∀ ob, (w11.alloc ob).cell? ⟨g9, 0, none⟩ = some (.int .i64 ngen) := fun ob => (sup_cells (s := (Sup.mk ngen nep nblk nlog nst npl nrt ncnt nver)) (((AL ob).block _ (lt_of_heap Y11.out.1.b9)).trans Y11.out.1.b9)).1
                have r1 : ∀ ob, (w11.alloc ob).cell? ⟨g9, 1, none⟩ = some (.int .i64 nep) := fun ob => (sup_cells (s := (Sup.mk ngen nep nblk nlog nst npl nrt ncnt nver)) (((AL ob).block _ (lt_of_heap Y11.out.1.b9)).trans Y11.out.1.b9)).2.1
                have r2 : ∀ ob, (w11.alloc ob).cell? ⟨g9, 2, none⟩ = some (.int .i64 nblk) := fun ob => (sup_cells (s := (Sup.mk ngen nep nblk nlog nst npl nrt ncnt nver)) (((AL ob).block _ (lt_of_heap Y11.out.1.b9)).trans Y11.out.1.b9)).2.2.1
                have r3 : ∀ ob, (w11.alloc ob).cell? ⟨g9, 3, none⟩ = some (.int .i64 nlog) := fun ob => (sup_cells (s := (Sup.mk ngen nep nblk nlog nst npl nrt ncnt nver)) (((AL ob).block _ (lt_of_heap Y11.out.1.b9)).trans Y11.out.1.b9)).2.2.2.1
                have r4 : ∀ ob, (w11.alloc ob).cell? ⟨g9, 4, none⟩ = some (.int .i64 nst) := fun ob => (sup_cells (s := (Sup.mk ngen nep nblk nlog nst npl nrt ncnt nver)) (((AL ob).block _ (lt_of_heap Y11.out.1.b9)).trans Y11.out.1.b9)).2.2.2.2.1
                have r5 : ∀ ob, (w11.alloc ob).cell? ⟨g9, 5, none⟩ = some (.int .i64 npl) := fun ob => (sup_cells (s := (Sup.mk ngen nep nblk nlog nst npl nrt ncnt nver)) (((AL ob).block _ (lt_of_heap Y11.out.1.b9)).trans Y11.out.1.b9)).2.2.2.2.2.1
                have r6 : ∀ ob, (w11.alloc ob).cell? ⟨g9, 6, none⟩ = some (.int .i64 nrt) := fun ob => (sup_cells (s := (Sup.mk ngen nep nblk nlog nst npl nrt ncnt nver)) (((AL ob).block _ (lt_of_heap Y11.out.1.b9)).trans Y11.out.1.b9)).2.2.2.2.2.2.1
                have r7 : ∀ ob, (w11.alloc ob).cell? ⟨g9, 7, none⟩ = some (.int .i64 ncnt) := fun ob => (sup_cells (s := (Sup.mk ngen nep nblk nlog nst npl nrt ncnt nver)) (((AL ob).block _ (lt_of_heap Y11.out.1.b9)).trans Y11.out.1.b9)).2.2.2.2.2.2.2.1
                have r8 : ∀ ob, (w11.alloc ob).cell? ⟨g9, 8, none⟩ = some (.int .i64 nver) := fun ob => (sup_cells (s := (Sup.mk ngen nep nblk nlog nst npl nrt ncnt nver)) (((AL ob).block _ (lt_of_heap Y11.out.1.b9)).trans Y11.out.1.b9)).2.2.2.2.2.2.2.2
                have YF : Hid (∀ ob, Wy w (w11.alloc ob) (dm + 2) dm (dm + 1) cvt (rdk T 2) g6 g8 g9 (Sup.mk cgen cep cblk clog cst cpl crt ccnt cver) (Sup.mk ngen nep nblk nlog nst npl nrt ncnt nver) #[.int .i64 xgen, .int .i64 xep, .int .i64 xblk, .int .i64 xlog, .int .i64 xst, .int .i64 xpl, .int .i64 xrt, .int .i64 xcnt, .int .i64 xver, .int .i64 arm, .bool cr, (.slice af nf cf)]) := Lib.hid (fun ob => Y11.out.1.below (AL ob))
                clear y11 h14 AL RD2 Y10 D10
                have ez : (cgen != 0) = false := by rw [bne_eq_false_iff_eq]; exact CZ.out
                clear Y11
                go_wp2_with fail
                go_roundg (n - (k + 1))
                case measure => have := G.out; omega
                case rel => exact ⟨k + 1, cvt, rdk T 2, (Sup.mk cgen cep cblk clog cst cpl crt ccnt cver), by omega, rfl, by go_num, (YF.out _).dv, (YF.out _).b6, (YF.out _).bl, LO.out, TF.out.1, TF.out.2.1, TF.out.2.2.1, TI.out, by have := GK.out; show cgen ≤ ((k + 1 : Nat) : Int); omega, TF.out.2.2.2⟩
            · as_aux_lemma =>
                have CZ := Lib.hid hz
                clear hz
                have RDT : Hid (readU T = ((Sup.mk cgen cep cblk clog cst cpl crt ccnt cver), (cgen % 2), 0) ∧ readU (newD 64 T.med) = ((Sup.mk cgen cep cblk clog cst cpl crt ccnt cver), (cgen % 2), 0)) := Lib.hid (by
                  have q1 := iv_read TI.out TF.out.2.1 TF.out.2.2.1
                  have q2 := iv_read (D := newD 64 T.med) TI.out rfl rfl
                  rw [if_neg (show ¬ (Sup.mk cgen cep cblk clog cst cpl crt ccnt cver).gen = 0 from CZ.out)] at q1 q2
                  exact ⟨q1, q2⟩)
                go_wp2_with fail
                refine (medium_x YT.out.dv).mono ?_
                rintro _ w8 ⟨am, nm, cm, rfl, o8, b8⟩
                have Y8 := Lib.hid (YT.out.below b8)
                have OFC := Lib.hid (of_ok _ T.med 64 w8 o8 TI.out.len (by decide) (by decide))
                obtain ⟨dc, hdc⟩ : ∃ n, n = w8.heap.size := ⟨_, rfl⟩
                have DLT : Hid (dm + 2 < dc ∧ w.heap.size ≤ dc) := Lib.hid (by have q1 := (YT.out.dv.foot_lt (dm + 2) (Or.inl rfl)).2; have q2 := b8.size; have q3 := YT.out.bl.size; omega)
                rw [← hdc] at OFC
                have HDC := Lib.hid hdc
                clear o8 b8 hdc YT
                go_wp2_with fail
                refine OFC.out.mono ?_
                rintro _ w9 ⟨rfl, b9, d9⟩
                have Y9 := Lib.hid (Y8.out.below (by have q := b9; rw [HDC.out] at q; exact q))
                have D9 := Lib.hid d9
                have RD1 : Hid (Calls Try.prog 13 #[.pointer (some ⟨dm + 2, 0, none⟩)] w9 fun e w' => e = .returned (.tuple #[.agg #[.int .i64 cgen, .int .i64 cep, .int .i64 cblk, .int .i64 clog, .int .i64 cst, .int .i64 cpl, .int .i64 crt, .int .i64 ccnt, .int .i64 cver], .int .i64 (cgen % 2), .int .i64 0]) ∧ Wy w w' (dm + 2) dm (dm + 1) cvt (rdk T 2) g6 g8 g9 (Sup.mk cgen cep cblk clog cst cpl crt ccnt cver) (Sup.mk ngen nep nblk nlog nst npl nrt ncnt nver) #[.int .i64 xgen, .int .i64 xep, .int .i64 xblk, .int .i64 xlog, .int .i64 xst, .int .i64 xpl, .int .i64 xrt, .int .i64 xcnt, .int .i64 xver, .int .i64 arm, .bool cr, (.slice af nf cf)] ∧ Kept (fun k => k = dm + 2) w9 w') := Lib.hid (read_x Y9.out TF.out.1 ((Sup.mk cgen cep cblk clog cst cpl crt ccnt cver), (cgen % 2), 0) RDT.out.1)
                clear b9 d9 Y8 OFC
                go_wp2_with fail
                refine RD1.out.mono ?_
                rintro _ w10 ⟨rfl, y10, k10⟩
                have Y10 := Lib.hid y10
                have D10 : Hid (Dv dc w10 (dc + 2) dc (dc + 1) (.slice none 0 0) (newD 64 T.med)) := Lib.hid (D9.out.kept k10 (fun k hk e => by have := (D9.out.foot_lt k hk).1; have := DLT.out.1; omega))
                obtain ⟨g14, hg14⟩ : ∃ g, g = w10.heap.size := ⟨_, rfl⟩
                have hg14' := hg14.symm
                have H14 := Lib.hid hg14
                clear y10 k10 RD1 Y9 D9 hg14
                have RD2 : Hid (Calls Try.prog 13 #[.pointer (some ⟨dc + 2, 0, none⟩)] (w10.alloc (.cells #[.int .i64 cgen, .int .i64 cep, .int .i64 cblk, .int .i64 clog, .int .i64 cst, .int .i64 cpl, .int .i64 crt, .int .i64 ccnt, .int .i64 cver] 25)) fun e w' => e = .returned (.tuple #[.agg #[.int .i64 cgen, .int .i64 cep, .int .i64 cblk, .int .i64 clog, .int .i64 cst, .int .i64 cpl, .int .i64 crt, .int .i64 ccnt, .int .i64 cver], .int .i64 (cgen % 2), .int .i64 0]) ∧ Wy w w' (dm + 2) dm (dm + 1) cvt (rdk T 2) g6 g8 g9 (Sup.mk cgen cep cblk clog cst cpl crt ccnt cver) (Sup.mk ngen nep nblk nlog nst npl nrt ncnt nver) #[.int .i64 xgen, .int .i64 xep, .int .i64 xblk, .int .i64 xlog, .int .i64 xst, .int .i64 xpl, .int .i64 xrt, .int .i64 xcnt, .int .i64 xver, .int .i64 arm, .bool cr, (.slice af nf cf)] ∧ w'.heap[g14]? = some (.cells (Sup.mk cgen cep cblk clog cst cpl crt ccnt cver).arr 25 (0, 0))) := Lib.hid (by
                  have q0 : Below w10.heap.size w10 (w10.alloc (.cells #[.int .i64 cgen, .int .i64 cep, .int .i64 cblk, .int .i64 clog, .int .i64 cst, .int .i64 cpl, .int .i64 crt, .int .i64 ccnt, .int .i64 cver] 25)) := (Below.refl _ _).alloc (Nat.le_refl _) _
                  have q1 := read_up (D10.out.below q0) rfl
                  rw [RDT.out.2] at q1
                  refine q1.mono ?_
                  rintro e w' ⟨rfl, h1, h2⟩
                  have q2 := (D10.out.foot_lt (dc + 2) (Or.inl rfl)).2
                  refine ⟨rfl, (Y10.out.below q0).other (D10.out.below q0) (by have := DLT.out.1; omega) (by have := DLT.out.2; omega) h2, ?_⟩
                  rw [H14.out, h2.block _ (by simp) (by omega)]
                  exact heap_alloc_new _ _)
                go_wp2_with fail
                refine RD2.out.mono ?_
                rintro _ w11 ⟨rfl, y11, h14⟩
                have Y11 := Lib.hid (And.intro y11 h14)
                have AL : ∀ ob, Below w11.heap.size w11 (w11.alloc ob) := fun ob => (Below.refl _ _).alloc (Nat.le_refl _) ob
                have p0 : ∀ ob, (w11.alloc ob).cell? ⟨g14, 0, none⟩ = some (.int .i64 cgen) := fun ob => (sup_cells (s := (Sup.mk cgen cep cblk clog cst cpl crt ccnt cver)) (((AL ob).block _ (lt_of_heap Y11.out.2)).trans Y11.out.2)).1
                have p1 : ∀ ob, (w11.alloc ob).cell? ⟨g14, 1, none⟩ = some (.int .i64 cep) := fun ob => (sup_cells (s := (Sup.mk cgen cep cblk clog cst cpl crt ccnt cver)) (((AL ob).block _ (lt_of_heap Y11.out.2)).trans Y11.out.2)).2.1
                have p2 : ∀ ob, (w11.alloc ob).cell? ⟨g14, 2, none⟩ = some (.int .i64 cblk) := fun ob => (sup_cells (s := (Sup.mk cgen cep cblk clog cst cpl crt ccnt cver)) (((AL ob).block _ (lt_of_heap Y11.out.2)).trans Y11.out.2)).2.2.1
                have p3 : ∀ ob, (w11.alloc ob).cell? ⟨g14, 3, none⟩ = some (.int .i64 clog) := fun ob => (sup_cells (s := (Sup.mk cgen cep cblk clog cst cpl crt ccnt cver)) (((AL ob).block _ (lt_of_heap Y11.out.2)).trans Y11.out.2)).2.2.2.1
                have p4 : ∀ ob, (w11.alloc ob).cell? ⟨g14, 4, none⟩ = some (.int .i64 cst) := fun ob => (sup_cells (s := (Sup.mk cgen cep cblk clog cst cpl crt ccnt cver)) (((AL ob).block _ (lt_of_heap Y11.out.2)).trans Y11.out.2)).2.2.2.2.1
                have p5 : ∀ ob, (w11.alloc ob).cell? ⟨g14, 5, none⟩ = some (.int .i64 cpl) := fun ob => (sup_cells (s := (Sup.mk cgen cep cblk clog cst cpl crt ccnt cver)) (((AL ob).block _ (lt_of_heap Y11.out.2)).trans Y11.out.2)).2.2.2.2.2.1
                have p6 : ∀ ob, (w11.alloc ob).cell? ⟨g14, 6, none⟩ = some (.int .i64 crt) := fun ob => (sup_cells (s := (Sup.mk cgen cep cblk clog cst cpl crt ccnt cver)) (((AL ob).block _ (lt_of_heap Y11.out.2)).trans Y11.out.2)).2.2.2.2.2.2.1
                have p7 : ∀ ob, (w11.alloc ob).cell? ⟨g14, 7, none⟩ = some (.int .i64 ccnt) := fun ob => (sup_cells (s := (Sup.mk cgen cep cblk clog cst cpl crt ccnt cver)) (((AL ob).block _ (lt_of_heap Y11.out.2)).trans Y11.out.2)).2.2.2.2.2.2.2.1
                have p8 : ∀ ob, (w11.alloc ob).cell? ⟨g14, 8, none⟩ = some (.int .i64 cver) := fun ob => (sup_cells (s := (Sup.mk cgen cep cblk clog cst cpl crt ccnt cver)) (((AL ob).block _ (lt_of_heap Y11.out.2)).trans Y11.out.2)).2.2.2.2.2.2.2.2
                have q0 : ∀ ob, (w11.alloc ob).cell? ⟨g6, 0, none⟩ = some (.int .i64 cgen) := fun ob => (sup_cells (s := (Sup.mk cgen cep cblk clog cst cpl crt ccnt cver)) (((AL ob).block _ (lt_of_heap Y11.out.1.b6)).trans Y11.out.1.b6)).1
                have q1 : ∀ ob, (w11.alloc ob).cell? ⟨g6, 1, none⟩ = some (.int .i64 cep) := fun ob => (sup_cells (s := (Sup.mk cgen cep cblk clog cst cpl crt ccnt cver)) (((AL ob).block _ (lt_of_heap Y11.out.1.b6)).trans Y11.out.1.b6)).2.1
                have q2 : ∀ ob, (w11.alloc ob).cell? ⟨g6, 2, none⟩ = some (.int .i64 cblk) := fun ob => (sup_cells (s := (Sup.mk cgen cep cblk clog cst cpl crt ccnt cver)) (((AL ob).block _ (lt_of_heap Y11.out.1.b6)).trans Y11.out.1.b6)).2.2.1
                have q3 : ∀ ob, (w11.alloc ob).cell? ⟨g6, 3, none⟩ = some (.int .i64 clog) := fun ob => (sup_cells (s := (Sup.mk cgen cep cblk clog cst cpl crt ccnt cver)) (((AL ob).block _ (lt_of_heap Y11.out.1.b6)).trans Y11.out.1.b6)).2.2.2.1
                have q4 : ∀ ob, (w11.alloc ob).cell? ⟨g6, 4, none⟩ = some (.int .i64 cst) := fun ob => (sup_cells (s := (Sup.mk cgen cep cblk clog cst cpl crt ccnt cver)) (((AL ob).block _ (lt_of_heap Y11.out.1.b6)).trans Y11.out.1.b6)).2.2.2.2.1
                have q5 : ∀ ob, (w11.alloc ob).cell? ⟨g6, 5, none⟩ = some (.int .i64 cpl) := fun ob => (sup_cells (s := (Sup.mk cgen cep cblk clog cst cpl crt ccnt cver)) (((AL ob).block _ (lt_of_heap Y11.out.1.b6)).trans Y11.out.1.b6)).2.2.2.2.2.1
                have q6 : ∀ ob, (w11.alloc ob).cell? ⟨g6, 6, none⟩ = some (.int .i64 crt) := fun ob => (sup_cells (s := (Sup.mk cgen cep cblk clog cst cpl crt ccnt cver)) (((AL ob).block _ (lt_of_heap Y11.out.1.b6)).trans Y11.out.1.b6)).2.2.2.2.2.2.1
                have q7 : ∀ ob, (w11.alloc ob).cell? ⟨g6, 7, none⟩ = some (.int .i64 ccnt) := fun ob => (sup_cells (s := (Sup.mk cgen cep cblk clog cst cpl crt ccnt cver)) (((AL ob).block _ (lt_of_heap Y11.out.1.b6)).trans Y11.out.1.b6)).2.2.2.2.2.2.2.1
                have q8 : ∀ ob, (w11.alloc ob).cell? ⟨g6, 8, none⟩ = some (.int .i64 cver) := fun ob => (sup_cells (s := (Sup.mk cgen cep cblk clog cst cpl crt ccnt cver)) (((AL ob).block _ (lt_of_heap Y11.out.1.b6)).trans Y11.out.1.b6)).2.2.2.2.2.2.2.2
                have r0 : ∀ ob, (w11.alloc ob).cell? ⟨g9, 0, none⟩ = some (.int .i64 ngen) := fun ob => (sup_cells (s := (Sup.mk ngen nep nblk nlog nst npl nrt ncnt nver)) (((AL ob).block _ (lt_of_heap Y11.out.1.b9)).trans Y11.out.1.b9)).1
                have r1 : ∀ ob, (w11.alloc ob).cell? ⟨g9, 1, none⟩ = some (.int .i64 nep) := fun ob => (sup_cells (s := (Sup.mk ngen nep nblk nlog nst npl nrt ncnt nver)) (((AL ob).block _ (lt_of_heap Y11.out.1.b9)).trans Y11.out.1.b9)).2.1
                have r2 : ∀ ob, (w11.alloc ob).cell? ⟨g9, 2, none⟩ = some (.int .i64 nblk) := fun ob => (sup_cells (s := (Sup.mk ngen nep nblk nlog nst npl nrt ncnt nver)) (((AL ob).block _ (lt_of_heap Y11.out.1.b9)).trans Y11.out.1.b9)).2.2.1
                have r3 : ∀ ob, (w11.alloc ob).cell? ⟨g9, 3, none⟩ = some (.int .i64 nlog) := fun ob => (sup_cells (s := (Sup.mk ngen nep nblk nlog nst npl nrt ncnt nver)) (((AL ob).block _ (lt_of_heap Y11.out.1.b9)).trans Y11.out.1.b9)).2.2.2.1
                have r4 : ∀ ob, (w11.alloc ob).cell? ⟨g9, 4, none⟩ = some (.int .i64 nst) := fun ob => (sup_cells (s := (Sup.mk ngen nep nblk nlog nst npl nrt ncnt nver)) (((AL ob).block _ (lt_of_heap Y11.out.1.b9)).trans Y11.out.1.b9)).2.2.2.2.1
                have r5 : ∀ ob, (w11.alloc ob).cell? ⟨g9, 5, none⟩ = some (.int .i64 npl) := fun ob => (sup_cells (s := (Sup.mk ngen nep nblk nlog nst npl nrt ncnt nver)) (((AL ob).block _ (lt_of_heap Y11.out.1.b9)).trans Y11.out.1.b9)).2.2.2.2.2.1
                have r6 : ∀ ob, (w11.alloc ob).cell? ⟨g9, 6, none⟩ = some (.int .i64 nrt) := fun ob => (sup_cells (s := (Sup.mk ngen nep nblk nlog nst npl nrt ncnt nver)) (((AL ob).block _ (lt_of_heap Y11.out.1.b9)).trans Y11.out.1.b9)).2.2.2.2.2.2.1
                have r7 : ∀ ob, (w11.alloc ob).cell? ⟨g9, 7, none⟩ = some (.int .i64 ncnt) := fun ob => (sup_cells (s := (Sup.mk ngen nep nblk nlog nst npl nrt ncnt nver)) (((AL ob).block _ (lt_of_heap Y11.out.1.b9)).trans Y11.out.1.b9)).2.2.2.2.2.2.2.1
                have r8 : ∀ ob, (w11.alloc ob).cell? ⟨g9, 8, none⟩ = some (.int .i64 nver) := fun ob => (sup_cells (s := (Sup.mk ngen nep nblk nlog nst npl nrt ncnt nver)) (((AL ob).block _ (lt_of_heap Y11.out.1.b9)).trans Y11.out.1.b9)).2.2.2.2.2.2.2.2
                have YF : Hid (∀ ob, Wy w (w11.alloc ob) (dm + 2) dm (dm + 1) cvt (rdk T 2) g6 g8 g9 (Sup.mk cgen cep cblk clog cst cpl crt ccnt cver) (Sup.mk ngen nep nblk nlog nst npl nrt ncnt nver) #[.int .i64 xgen, .int .i64 xep, .int .i64 xblk, .int .i64 xlog, .int .i64 xst, .int .i64 xpl, .int .i64 xrt, .int .i64 xcnt, .int .i64 xver, .int .i64 arm, .bool cr, (.slice af nf cf)]) := Lib.hid (fun ob => Y11.out.1.below (AL ob))
                clear y11 h14 AL RD2 Y10 D10
                have rem : cgen.tmod 2 = cgen % 2 := Int.tmod_eq_emod_of_nonneg (by have := GP.out; omega)
                clear Y11
                go_wp2_with (first | (refine wpList_store_row rfl 25 (.tmp 6) (.tmp 149) rfl g6 (Sup.mk cgen cep cblk clog cst cpl crt ccnt cver).arr rfl rfl 25 (Sup.mk cgen cep cblk clog cst cpl crt ccnt cver).arr (YF.out _).b6 size_super rfl (arr_one _) ?_))
                go_roundg (n - (k + 1))
                case measure => have := G.out; omega
                case rel => exact ⟨k + 1, cvt, rdk T 2, (Sup.mk cgen cep cblk clog cst cpl crt ccnt cver), by omega, rfl, by go_num, ((YF.out _).six _).dv, ((YF.out _).six _).b6, ((YF.out _).six _).bl, LO.out, TF.out.1, TF.out.2.1, TF.out.2.2.1, TI.out, by have := GK.out; have := GP.out; show cgen ≤ ((k + 1 : Nat) : Int); omega, TF.out.2.2.2⟩
          · as_aux_lemma =>
              have TI := Lib.hid iv
              clear iv EI
              have CZ : Hid (¬ ngen = 0) := Lib.hid (by have := GP.out; omega)
              have RDT : Hid (readU T = ((Sup.mk ngen nep nblk nlog nst npl nrt ncnt nver), (ngen % 2), 0) ∧ readU (newD 64 T.med) = ((Sup.mk ngen nep nblk nlog nst npl nrt ncnt nver), (ngen % 2), 0)) := Lib.hid (by
                have q1 := iv_read TI.out TF.out.2.1 TF.out.2.2.1
                have q2 := iv_read (D := newD 64 T.med) TI.out rfl rfl
                rw [if_neg (show ¬ (Sup.mk ngen nep nblk nlog nst npl nrt ncnt nver).gen = 0 from CZ.out)] at q1 q2
                exact ⟨q1, q2⟩)
              go_wp2_with fail
              refine (medium_x YT.out.dv).mono ?_
              rintro _ w8 ⟨am, nm, cm, rfl, o8, b8⟩
              have Y8 := Lib.hid (YT.out.below b8)
              have OFC := Lib.hid (of_ok _ T.med 64 w8 o8 TI.out.len (by decide) (by decide))
              obtain ⟨dc, hdc⟩ : ∃ n, n = w8.heap.size := ⟨_, rfl⟩
              have DLT : Hid (dm + 2 < dc ∧ w.heap.size ≤ dc) := Lib.hid (by have q1 := (YT.out.dv.foot_lt (dm + 2) (Or.inl rfl)).2; have q2 := b8.size; have q3 := YT.out.bl.size; omega)
              rw [← hdc] at OFC
              have HDC := Lib.hid hdc
              clear o8 b8 hdc YT
              go_wp2_with fail
              refine OFC.out.mono ?_
              rintro _ w9 ⟨rfl, b9, d9⟩
              have Y9 := Lib.hid (Y8.out.below (by have q := b9; rw [HDC.out] at q; exact q))
              have D9 := Lib.hid d9
              have RD1 : Hid (Calls Try.prog 13 #[.pointer (some ⟨dm + 2, 0, none⟩)] w9 fun e w' => e = .returned (.tuple #[.agg #[.int .i64 ngen, .int .i64 nep, .int .i64 nblk, .int .i64 nlog, .int .i64 nst, .int .i64 npl, .int .i64 nrt, .int .i64 ncnt, .int .i64 nver], .int .i64 (ngen % 2), .int .i64 0]) ∧ Wy w w' (dm + 2) dm (dm + 1) cvt (rdk T 2) g6 g8 g9 (Sup.mk cgen cep cblk clog cst cpl crt ccnt cver) (Sup.mk ngen nep nblk nlog nst npl nrt ncnt nver) #[.int .i64 xgen, .int .i64 xep, .int .i64 xblk, .int .i64 xlog, .int .i64 xst, .int .i64 xpl, .int .i64 xrt, .int .i64 xcnt, .int .i64 xver, .int .i64 arm, .bool cr, (.slice af nf cf)] ∧ Kept (fun k => k = dm + 2) w9 w') := Lib.hid (read_x Y9.out TF.out.1 ((Sup.mk ngen nep nblk nlog nst npl nrt ncnt nver), (ngen % 2), 0) RDT.out.1)
              clear b9 d9 Y8 OFC
              go_wp2_with fail
              refine RD1.out.mono ?_
              rintro _ w10 ⟨rfl, y10, k10⟩
              have Y10 := Lib.hid y10
              have D10 : Hid (Dv dc w10 (dc + 2) dc (dc + 1) (.slice none 0 0) (newD 64 T.med)) := Lib.hid (D9.out.kept k10 (fun k hk e => by have := (D9.out.foot_lt k hk).1; have := DLT.out.1; omega))
              obtain ⟨g14, hg14⟩ : ∃ g, g = w10.heap.size := ⟨_, rfl⟩
              have hg14' := hg14.symm
              have H14 := Lib.hid hg14
              clear y10 k10 RD1 Y9 D9 hg14
              have RD2 : Hid (Calls Try.prog 13 #[.pointer (some ⟨dc + 2, 0, none⟩)] (w10.alloc (.cells #[.int .i64 ngen, .int .i64 nep, .int .i64 nblk, .int .i64 nlog, .int .i64 nst, .int .i64 npl, .int .i64 nrt, .int .i64 ncnt, .int .i64 nver] 25)) fun e w' => e = .returned (.tuple #[.agg #[.int .i64 ngen, .int .i64 nep, .int .i64 nblk, .int .i64 nlog, .int .i64 nst, .int .i64 npl, .int .i64 nrt, .int .i64 ncnt, .int .i64 nver], .int .i64 (ngen % 2), .int .i64 0]) ∧ Wy w w' (dm + 2) dm (dm + 1) cvt (rdk T 2) g6 g8 g9 (Sup.mk cgen cep cblk clog cst cpl crt ccnt cver) (Sup.mk ngen nep nblk nlog nst npl nrt ncnt nver) #[.int .i64 xgen, .int .i64 xep, .int .i64 xblk, .int .i64 xlog, .int .i64 xst, .int .i64 xpl, .int .i64 xrt, .int .i64 xcnt, .int .i64 xver, .int .i64 arm, .bool cr, (.slice af nf cf)] ∧ w'.heap[g14]? = some (.cells (Sup.mk ngen nep nblk nlog nst npl nrt ncnt nver).arr 25 (0, 0))) := Lib.hid (by
                have q0 : Below w10.heap.size w10 (w10.alloc (.cells #[.int .i64 ngen, .int .i64 nep, .int .i64 nblk, .int .i64 nlog, .int .i64 nst, .int .i64 npl, .int .i64 nrt, .int .i64 ncnt, .int .i64 nver] 25)) := (Below.refl _ _).alloc (Nat.le_refl _) _
                have q1 := read_up (D10.out.below q0) rfl
                rw [RDT.out.2] at q1
                refine q1.mono ?_
                rintro e w' ⟨rfl, h1, h2⟩
                have q2 := (D10.out.foot_lt (dc + 2) (Or.inl rfl)).2
                refine ⟨rfl, (Y10.out.below q0).other (D10.out.below q0) (by have := DLT.out.1; omega) (by have := DLT.out.2; omega) h2, ?_⟩
                rw [H14.out, h2.block _ (by simp) (by omega)]
                exact heap_alloc_new _ _)
              go_wp2_with fail
              refine RD2.out.mono ?_
              rintro _ w11 ⟨rfl, y11, h14⟩
              have Y11 := Lib.hid (And.intro y11 h14)
              have AL : ∀ ob, Below w11.heap.size w11 (w11.alloc ob) := fun ob => (Below.refl _ _).alloc (Nat.le_refl _) ob
              have p0 : ∀ ob, (w11.alloc ob).cell? ⟨g14, 0, none⟩ = some (.int .i64 ngen) := fun ob => (sup_cells (s := (Sup.mk ngen nep nblk nlog nst npl nrt ncnt nver)) (((AL ob).block _ (lt_of_heap Y11.out.2)).trans Y11.out.2)).1
              have p1 : ∀ ob, (w11.alloc ob).cell? ⟨g14, 1, none⟩ = some (.int .i64 nep) := fun ob => (sup_cells (s := (Sup.mk ngen nep nblk nlog nst npl nrt ncnt nver)) (((AL ob).block _ (lt_of_heap Y11.out.2)).trans Y11.out.2)).2.1
              have p2 : ∀ ob, (w11.alloc ob).cell? ⟨g14, 2, none⟩ = some (.int .i64 nblk) := fun ob => (sup_cells (s := (Sup.mk ngen nep nblk nlog nst npl nrt ncnt nver)) (((AL ob).block _ (lt_of_heap Y11.out.2)).trans Y11.out.2)).2.2.1
              have p3 : ∀ ob, (w11.alloc ob).cell? ⟨g14, 3, none⟩ = some (.int .i64 nlog) := fun ob => (sup_cells (s := (Sup.mk ngen nep nblk nlog nst npl nrt ncnt nver)) (((AL ob).block _ (lt_of_heap Y11.out.2)).trans Y11.out.2)).2.2.2.1
              have p4 : ∀ ob, (w11.alloc ob).cell? ⟨g14, 4, none⟩ = some (.int .i64 nst) := fun ob => (sup_cells (s := (Sup.mk ngen nep nblk nlog nst npl nrt ncnt nver)) (((AL ob).block _ (lt_of_heap Y11.out.2)).trans Y11.out.2)).2.2.2.2.1
              have p5 : ∀ ob, (w11.alloc ob).cell? ⟨g14, 5, none⟩ = some (.int .i64 npl) := fun ob => (sup_cells (s := (Sup.mk ngen nep nblk nlog nst npl nrt ncnt nver)) (((AL ob).block _ (lt_of_heap Y11.out.2)).trans Y11.out.2)).2.2.2.2.2.1
              have p6 : ∀ ob, (w11.alloc ob).cell? ⟨g14, 6, none⟩ = some (.int .i64 nrt) := fun ob => (sup_cells (s := (Sup.mk ngen nep nblk nlog nst npl nrt ncnt nver)) (((AL ob).block _ (lt_of_heap Y11.out.2)).trans Y11.out.2)).2.2.2.2.2.2.1
              have p7 : ∀ ob, (w11.alloc ob).cell? ⟨g14, 7, none⟩ = some (.int .i64 ncnt) := fun ob => (sup_cells (s := (Sup.mk ngen nep nblk nlog nst npl nrt ncnt nver)) (((AL ob).block _ (lt_of_heap Y11.out.2)).trans Y11.out.2)).2.2.2.2.2.2.2.1
              have p8 : ∀ ob, (w11.alloc ob).cell? ⟨g14, 8, none⟩ = some (.int .i64 nver) := fun ob => (sup_cells (s := (Sup.mk ngen nep nblk nlog nst npl nrt ncnt nver)) (((AL ob).block _ (lt_of_heap Y11.out.2)).trans Y11.out.2)).2.2.2.2.2.2.2.2
              have q0 : ∀ ob, (w11.alloc ob).cell? ⟨g6, 0, none⟩ = some (.int .i64 cgen) := fun ob => (sup_cells (s := (Sup.mk cgen cep cblk clog cst cpl crt ccnt cver)) (((AL ob).block _ (lt_of_heap Y11.out.1.b6)).trans Y11.out.1.b6)).1
              have q1 : ∀ ob, (w11.alloc ob).cell? ⟨g6, 1, none⟩ = some (.int .i64 cep) := fun ob => (sup_cells (s := (Sup.mk cgen cep cblk clog cst cpl crt ccnt cver)) (((AL ob).block _ (lt_of_heap Y11.out.1.b6)).trans Y11.out.1.b6)).2.1
              have q2 : ∀ ob, (w11.alloc ob).cell? ⟨g6, 2, none⟩ = some (.int .i64 cblk) := fun ob => (sup_cells (s := (Sup.mk cgen cep cblk clog cst cpl crt ccnt cver)) (((AL ob).block _ (lt_of_heap Y11.out.1.b6)).trans Y11.out.1.b6)).2.2.1
              have q3 : ∀ ob, (w11.alloc ob).cell? ⟨g6, 3, none⟩ = some (.int .i64 clog) := fun ob => (sup_cells (s := (Sup.mk cgen cep cblk clog cst cpl crt ccnt cver)) (((AL ob).block _ (lt_of_heap Y11.out.1.b6)).trans Y11.out.1.b6)).2.2.2.1
              have q4 : ∀ ob, (w11.alloc ob).cell? ⟨g6, 4, none⟩ = some (.int .i64 cst) := fun ob => (sup_cells (s := (Sup.mk cgen cep cblk clog cst cpl crt ccnt cver)) (((AL ob).block _ (lt_of_heap Y11.out.1.b6)).trans Y11.out.1.b6)).2.2.2.2.1
              have q5 : ∀ ob, (w11.alloc ob).cell? ⟨g6, 5, none⟩ = some (.int .i64 cpl) := fun ob => (sup_cells (s := (Sup.mk cgen cep cblk clog cst cpl crt ccnt cver)) (((AL ob).block _ (lt_of_heap Y11.out.1.b6)).trans Y11.out.1.b6)).2.2.2.2.2.1
              have q6 : ∀ ob, (w11.alloc ob).cell? ⟨g6, 6, none⟩ = some (.int .i64 crt) := fun ob => (sup_cells (s := (Sup.mk cgen cep cblk clog cst cpl crt ccnt cver)) (((AL ob).block _ (lt_of_heap Y11.out.1.b6)).trans Y11.out.1.b6)).2.2.2.2.2.2.1
              have q7 : ∀ ob, (w11.alloc ob).cell? ⟨g6, 7, none⟩ = some (.int .i64 ccnt) := fun ob => (sup_cells (s := (Sup.mk cgen cep cblk clog cst cpl crt ccnt cver)) (((AL ob).block _ (lt_of_heap Y11.out.1.b6)).trans Y11.out.1.b6)).2.2.2.2.2.2.2.1
              have q8 : ∀ ob, (w11.alloc ob).cell? ⟨g6, 8, none⟩ = some (.int .i64 cver) := fun ob => (sup_cells (s := (Sup.mk cgen cep cblk clog cst cpl crt ccnt cver)) (((AL ob).block _ (lt_of_heap Y11.out.1.b6)).trans Y11.out.1.b6)).2.2.2.2.2.2.2.2
              have r0 : ∀ ob, (w11.alloc ob).cell? ⟨g9, 0, none⟩ = some (.int .i64 ngen) := fun ob => (sup_cells (s := (Sup.mk ngen nep nblk nlog nst npl nrt ncnt nver)) (((AL ob).block _ (lt_of_heap Y11.out.1.b9)).trans Y11.out.1.b9)).1
              have r1 : ∀ ob, (w11.alloc ob).cell? ⟨g9, 1, none⟩ = some (.int .i64 nep) := fun ob => (sup_cells (s := (Sup.mk ngen nep nblk nlog nst npl nrt ncnt nver)) (((AL ob).block _ (lt_of_heap Y11.out.1.b9)).trans Y11.out.1.b9)).2.1
              have r2 : ∀ ob, (w11.alloc ob).cell? ⟨g9, 2, none⟩ = some (.int .i64 nblk) := fun ob => (sup_cells (s := (Sup.mk ngen nep nblk nlog nst npl nrt ncnt nver)) (((AL ob).block _ (lt_of_heap Y11.out.1.b9)).trans Y11.out.1.b9)).2.2.1
              have r3 : ∀ ob, (w11.alloc ob).cell? ⟨g9, 3, none⟩ = some (.int .i64 nlog) := fun ob => (sup_cells (s := (Sup.mk ngen nep nblk nlog nst npl nrt ncnt nver)) (((AL ob).block _ (lt_of_heap Y11.out.1.b9)).trans Y11.out.1.b9)).2.2.2.1
              have r4 : ∀ ob, (w11.alloc ob).cell? ⟨g9, 4, none⟩ = some (.int .i64 nst) := fun ob => (sup_cells (s := (Sup.mk ngen nep nblk nlog nst npl nrt ncnt nver)) (((AL ob).block _ (lt_of_heap Y11.out.1.b9)).trans Y11.out.1.b9)).2.2.2.2.1
              have r5 : ∀ ob, (w11.alloc ob).cell? ⟨g9, 5, none⟩ = some (.int .i64 npl) := fun ob => (sup_cells (s := (Sup.mk ngen nep nblk nlog nst npl nrt ncnt nver)) (((AL ob).block _ (lt_of_heap Y11.out.1.b9)).trans Y11.out.1.b9)).2.2.2.2.2.1
              have r6 : ∀ ob, (w11.alloc ob).cell? ⟨g9, 6, none⟩ = some (.int .i64 nrt) := fun ob => (sup_cells (s := (Sup.mk ngen nep nblk nlog nst npl nrt ncnt nver)) (((AL ob).block _ (lt_of_heap Y11.out.1.b9)).trans Y11.out.1.b9)).2.2.2.2.2.2.1
              have r7 : ∀ ob, (w11.alloc ob).cell? ⟨g9, 7, none⟩ = some (.int .i64 ncnt) := fun ob => (sup_cells (s := (Sup.mk ngen nep nblk nlog nst npl nrt ncnt nver)) (((AL ob).block _ (lt_of_heap Y11.out.1.b9)).trans Y11.out.1.b9)).2.2.2.2.2.2.2.1
              have r8 : ∀ ob, (w11.alloc ob).cell? ⟨g9, 8, none⟩ = some (.int .i64 nver) := fun ob => (sup_cells (s := (Sup.mk ngen nep nblk nlog nst npl nrt ncnt nver)) (((AL ob).block _ (lt_of_heap Y11.out.1.b9)).trans Y11.out.1.b9)).2.2.2.2.2.2.2.2
              have YF : Hid (∀ ob, Wy w (w11.alloc ob) (dm + 2) dm (dm + 1) cvt (rdk T 2) g6 g8 g9 (Sup.mk cgen cep cblk clog cst cpl crt ccnt cver) (Sup.mk ngen nep nblk nlog nst npl nrt ncnt nver) #[.int .i64 xgen, .int .i64 xep, .int .i64 xblk, .int .i64 xlog, .int .i64 xst, .int .i64 xpl, .int .i64 xrt, .int .i64 xcnt, .int .i64 xver, .int .i64 arm, .bool cr, (.slice af nf cf)]) := Lib.hid (fun ob => Y11.out.1.below (AL ob))
              clear y11 h14 AL RD2 Y10 D10
              have rem : ngen.tmod 2 = ngen % 2 := Int.tmod_eq_emod_of_nonneg (by have := GP.out; omega)
              have ene : (ngen == cgen) = false := by rw [beq_eq_false_iff_ne]; have := GP.out; omega
              clear Y11
              go_wp2_with (first | (refine wpList_store_row rfl 25 (.tmp 6) (.tmp 149) rfl g6 (Sup.mk ngen nep nblk nlog nst npl nrt ncnt nver).arr rfl rfl 25 (Sup.mk cgen cep cblk clog cst cpl crt ccnt cver).arr (YF.out _).b6 size_super rfl (arr_one _) ?_))
              go_roundg (n - (k + 1))
              case measure => have := G.out; omega
              case rel => exact ⟨k + 1, cvt, rdk T 2, (Sup.mk ngen nep nblk nlog nst npl nrt ncnt nver), by omega, rfl, by go_num, ((YF.out _).six _).dv, ((YF.out _).six _).b6, ((YF.out _).six _).bl, LO.out, TF.out.1, TF.out.2.1, TF.out.2.2.1, TI.out, by have := GK.out; have := GP.out; show ngen ≤ ((k + 1 : Nat) : Int); omega, TF.out.2.2.2⟩
    · have ek : k = n := by omega
      subst ek
      clear hlt
      have BF := Lib.hid WS.out.bl
      clear WS
      go_wp2_with fail
      go_ret
      exact ⟨rfl, BF.out⟩
end Go.Proofs.Ythjekiddjldehaa
