/-
  AnchorPlays.
-/
import Derived.Test.YtbdlebengmbooaaApQ
import Derived.Deep.CutBlock
import Derived.Deep.DeepCutAuto
namespace Go.Proofs.Ytbdlebengmbooaa
open Go.RowKit Go.Maps
namespace Rf
variable {w0 W W' : World} {d x gx : Nat} {s t : DS} {r : RD} {o : OpA}
set_option maxHeartbeats 40000000 in
set_option maxRecDepth 100000 in
theorem anchor_plays (i1 : Int) (v : Value) (l : List OpA) (w : World) (hv : Opa w v l) (hl : l.length ≤ 977343672030) :
    Calls Try.prog 3 #[.int .i64 i1, v] w fun e w' => e = .returned (.bool true) ∧ Below w.heap.size w w' := by
  obtain ⟨hA, av, cap, rfl, hlc, hcm, hcell⟩ := hv
  obtain ⟨m, hm⟩ : ∃ m, m = l.length := ⟨_, rfl⟩
  rw [← hm] at hlc hl ⊢
  have HA := Lib.hid hA
  have HC := Lib.hid hcell
  have MM := Lib.hid hm
  have HL := Lib.hid hl
  unfold maxLen at hcm
  obtain ⟨nb, hnb⟩ : ∃ nb : Nat, nb = 64 + (i1 % 256).toNat := ⟨_, rfl⟩
  have NB : Hid (64 ≤ nb ∧ nb ≤ 319) := Lib.hid (by omega)
  have mk : bits .and .i64 i1 255 = (((i1 % 256).toNat : Nat) : Int) := and_255 i1
  obtain ⟨kk, hkk⟩ : ∃ kk, kk = (i1 % 256).toNat := ⟨_, rfl⟩
  rw [← hkk] at mk hnb
  have k1 : kk ≤ 255 := by have := NB.out; omega
  have e1 : (64 : Int) + (kk : Int) = (nb : Int) := by omega
  have NW := Lib.hid (fun W => new_ok nb W (by have := NB.out; omega) (by have := NB.out; omega))
  have RW := Lib.hid (fun W => rnew_ok nb W (by have := NB.out; omega) (by have := NB.out; omega))
  clear hA hcell hm hl hnb hkk
  go_enter Try.func3, Try.ntmps3
  go_wp2_with fail
  refine (fixed_any w).mono ?_
  rintro _ w1 ⟨rfl, b1⟩
  have B1 := Lib.hid b1
  clear b1
  go_wp2_with fail
  refine (NW.out w1).mono ?_
  rintro e w2 ⟨rfl, hb2, hd2⟩
  obtain ⟨d, hd⟩ : ∃ d, d = w1.heap.size + 2 := ⟨_, rfl⟩
  rw [← hd] at hd2 ⊢
  have P2 := Lib.hid (And.intro hb2 hd2)
  clear hb2 hd2 hd
  go_wp2_with fail
  refine (RW.out w2).mono ?_
  rintro e w3 ⟨rfl, hb3, hr3⟩
  obtain ⟨x, hx⟩ : ∃ x, x = w2.heap.size := ⟨_, rfl⟩
  have hr3' : Rd w2.heap.size w3 x (.slice none 0 0) (.slice none 0 0) (.slice none 0 0) (newR nb []) := by rw [hx]; exact hr3
  rw [← hx]
  have L0 : Hid (Lp w w3 d x (newD nb (List.replicate (512 * nb) 0)) (newR nb []) 0) := Lib.hid (by
    have s1 := B1.out.size
    have s2 := P2.out.1.size
    refine ⟨⟨⟨w1.heap.size, w1.heap.size + 1, .slice none 0 0, .slice none 0 0, .slice none 0 0, .slice none 0 0, Dv.mono (P2.out.2.below hb3) (by omega), Rd.mono hr3' (by omega)⟩, ?_⟩, new_same nb, Nat.le_refl _, Nat.le_refl _, Nat.zero_le _, fun _ => rfl⟩
    exact (B1.out.trans (P2.out.1.mono s1)).trans (hb3.mono (by omega)))
  clear hb3 hr3 hr3' hx P2 B1 NW RW mk k1 e1 NB
  go_wp2_with fail
  go_loopg [10, 11, 12, 13, 14, 15, 16, 17, 18, 19, 20, 21, 22, 23, 24, 25] m (fun gg s10 s11 s12 s13 s14 s15 s16 s17 s18 s19 s20 s21 s22 s23 s24 s25 wr => ∃ i : Nat, i ≤ m ∧ gg = m - i ∧ s10 = .int .i64 i ∧ Hid (∃ s r, Lp w wr d x s r i))
  case atStart => exact ⟨0, by omega, rfl, rfl, Lib.hid ⟨_, _, L0.out⟩⟩
  case round =>
    clear L0
    obtain ⟨i, hi, hg, rfl, S⟩ := hrel
    have G := Lib.hid hg
    clear hg
    by_cases hlt : i < m
    · have hlt' : (i : Int) < (m : Int) := by omega
      obtain ⟨s, r, LP0⟩ := S.out
      have LP := Lib.hid LP0
      clear S LP0
      obtain ⟨b, off, rfl, hcs⟩ := HC.out (fun e => by rw [e] at MM; have := MM.out; simp at this; omega)
      obtain ⟨o, ho⟩ : ∃ o, l[i]? = some o := ⟨_, List.getElem?_eq_getElem (by rw [← MM.out]; exact hlt)⟩
      have OA := Lib.hid (HA.out o (List.mem_of_getElem? ho))
      have CL : ∀ j u, o.cells[j]? = some u → wr.cell? ⟨b, off + i * 14 + j, none⟩ = some u := fun j u hu => by
        have h := hcs i o ho j u hu
        exact (LP.out.pr.bel.cell (block_lt_of_cell h)).trans h
      obtain ⟨kind, ⟨xgen, xep, xblk, xlog, xst, xpl, xrt, xcnt, xver⟩, on, oat, dv, ds, fv, fs⟩ := o
      have c0 : wr.cell? ⟨b, off + i * 14, none⟩ = some (.int .i64 kind) := CL 0 _ rfl
      have c1 : wr.cell? ⟨b, off + i * 14 + 1, none⟩ = some (.int .i64 xgen) := CL 1 _ rfl
      have c2 : wr.cell? ⟨b, off + i * 14 + 2, none⟩ = some (.int .i64 xep) := CL 2 _ rfl
      have c3 : wr.cell? ⟨b, off + i * 14 + 3, none⟩ = some (.int .i64 xblk) := CL 3 _ rfl
      have c4 : wr.cell? ⟨b, off + i * 14 + 4, none⟩ = some (.int .i64 xlog) := CL 4 _ rfl
      have c5 : wr.cell? ⟨b, off + i * 14 + 5, none⟩ = some (.int .i64 xst) := CL 5 _ rfl
      have c6 : wr.cell? ⟨b, off + i * 14 + 6, none⟩ = some (.int .i64 xpl) := CL 6 _ rfl
      have c7 : wr.cell? ⟨b, off + i * 14 + 7, none⟩ = some (.int .i64 xrt) := CL 7 _ rfl
      have c8 : wr.cell? ⟨b, off + i * 14 + 8, none⟩ = some (.int .i64 xcnt) := CL 8 _ rfl
      have c9 : wr.cell? ⟨b, off + i * 14 + 9, none⟩ = some (.int .i64 xver) := CL 9 _ rfl
      have c10 : wr.cell? ⟨b, off + i * 14 + 10, none⟩ = some (.int .i64 on) := CL 10 _ rfl
      have c11 : wr.cell? ⟨b, off + i * 14 + 11, none⟩ = some (.int .i64 oat) := CL 11 _ rfl
      have c12 : wr.cell? ⟨b, off + i * 14 + 12, none⟩ = some dv := CL 12 _ rfl
      have c13 : wr.cell? ⟨b, off + i * 14 + 13, none⟩ = some fv := CL 13 _ rfl
      obtain ⟨ab, nb', cb, rfl⟩ : ∃ a n c, dv = .slice a n c := by obtain ⟨a, c, e, _⟩ := OA.out.1; exact ⟨a, _, c, e⟩
      obtain ⟨af, nf, cf, rfl⟩ : ∃ a n c, fv = .slice a n c := by obtain ⟨a, c, e, _⟩ := OA.out.2.1; exact ⟨a, _, c, e⟩
      obtain ⟨gx, hgx⟩ : ∃ g, g = wr.heap.size := ⟨_, rfl⟩
      obtain ⟨o, hoo⟩ : ∃ o : OpA, o = ⟨kind, ⟨xgen, xep, xblk, xlog, xst, xpl, xrt, xcnt, xver⟩, on, oat, .slice ab nb' cb, ds, .slice af nf cf, fs⟩ := ⟨_, rfl⟩
      have S0 : Hid (∀ W, W = wr.alloc (.cells #[.int .i64 kind, .int .i64 xgen, .int .i64 xep, .int .i64 xblk, .int .i64 xlog, .int .i64 xst, .int .i64 xpl, .int .i64 xrt, .int .i64 xcnt, .int .i64 xver, .int .i64 on, .int .i64 oat, .slice ab nb' cb, .slice af nf cf] 38) → Sp w W d x s r gx o) := Lib.hid (fun W hW => by
        have q0 : Below wr.heap.size wr W := by rw [hW]; exact (Below.refl _ _).alloc (Nat.le_refl _) _
        exact ⟨LP.out.pr.below q0, by rw [hW, hgx, hoo]; exact heap_alloc_new _ _⟩)
      have CC : Hid (∀ W s r, Sp w W d x s r gx o → W.cell? ⟨gx, 0, none⟩ = some (.int .i64 kind) ∧ W.cell? ⟨gx, 1, none⟩ = some (.int .i64 xgen) ∧ W.cell? ⟨gx, 2, none⟩ = some (.int .i64 xep) ∧ W.cell? ⟨gx, 3, none⟩ = some (.int .i64 xblk) ∧ W.cell? ⟨gx, 4, none⟩ = some (.int .i64 xlog) ∧ W.cell? ⟨gx, 5, none⟩ = some (.int .i64 xst) ∧ W.cell? ⟨gx, 6, none⟩ = some (.int .i64 xpl) ∧ W.cell? ⟨gx, 7, none⟩ = some (.int .i64 xrt) ∧ W.cell? ⟨gx, 8, none⟩ = some (.int .i64 xcnt) ∧ W.cell? ⟨gx, 9, none⟩ = some (.int .i64 xver) ∧ W.cell? ⟨gx, 10, none⟩ = some (.int .i64 on) ∧ W.cell? ⟨gx, 11, none⟩ = some (.int .i64 oat) ∧ W.cell? ⟨gx, 12, none⟩ = some (.slice ab nb' cb) ∧ W.cell? ⟨gx, 13, none⟩ = some (.slice af nf cf)) := Lib.hid (fun W s r h => by have q := op_cells h.bx; rw [hoo] at q; exact q)
      have REL : Hid (Rel s r ∧ Fit s ∧ s.ws ≤ i ∧ r.laid.length + r.cache.length ≤ i ∧ i < 977343672030 ∧ Cz s) := Lib.hid ⟨LP.out.rel, LP.out.pr.fit, LP.out.ws, LP.out.ln, by have := HL.out; omega, LP.out.cz⟩
      have BY : Hid (∀ W s r, Sp w W d x s r gx o → Bytes W (.slice ab nb' cb) ds ∧ ds.length ≤ 140737488355300) := Lib.hid (fun W s r h => ⟨OA.out.1.below h.pr.bel, OA.out.2.2.1⟩)
      have FY : Hid (∀ W s r, Sp w W d x s r gx o → Fts W (.slice af nf cf) fs ∧ fs.length ≤ 8796093022199) := Lib.hid (fun W s r h => ⟨OA.out.2.1.below h.pr.bel, OA.out.2.2.2⟩)
      have OS : Hid (o.sup.arr = #[.int .i64 xgen, .int .i64 xep, .int .i64 xblk, .int .i64 xlog, .int .i64 xst, .int .i64 xpl, .int .i64 xrt, .int .i64 xcnt, .int .i64 xver] ∧ o.n = on ∧ o.at_ = oat) := Lib.hid (by rw [hoo]; exact ⟨rfl, rfl, rfl⟩)
      have hgx' := hgx.symm
      clear CL hcs ho hoo OA LP hgx
      go_upto_block 2 with fail
      clear c0 c1 c2 c3 c4 c5 c6 c7 c8 c9 c10 c11 c12 c13
      obtain ⟨W1, hW1⟩ : ∃ W, W = wr.alloc (.cells #[.int .i64 kind, .int .i64 xgen, .int .i64 xep, .int .i64 xblk, .int .i64 xlog, .int .i64 xst, .int .i64 xpl, .int .i64 xrt, .int .i64 xcnt, .int .i64 xver, .int .i64 on, .int .i64 oat, .slice ab nb' cb, .slice af nf cf] 38) := ⟨_, rfl⟩
      have S1 := Lib.hid (S0.out _ hW1)
      rw [← hW1]
      clear hW1 S0 hgx'
      go_cut [] (fun wx => Hid (∃ s r, Lp w wx d x s r (i + 1)))
      case first => as_aux_lemma =>
        by_cases k1 : kind = 1
        · as_aux_lemma =>
            subst k1
            obtain ⟨c0, c1, c2, c3, c4, c5, c6, c7, c8, c9, c10, c11, c12, c13⟩ := CC.out _ _ _ S1.out
            have CW := Lib.hid (sp_write S1.out (by have := REL.out; omega) REL.out.2.2.2.2.2.1)
            rw [OS.out.1] at CW
            go_wp2_with fail
            refine CW.out.mono ?_
            rintro e w5 ⟨rfl, h5⟩
            have S5 := Lib.hid h5
            clear h5 CW S1
            clear c0 c1 c2 c3 c4 c5 c6 c7 c8 c9 c10 c11 c12 c13
            obtain ⟨c0, c1, c2, c3, c4, c5, c6, c7, c8, c9, c10, c11, c12, c13⟩ := CC.out _ _ _ S5.out
            have CR := Lib.hid (sp_rwrite S5.out REL.out.1 REL.out.2.1 (by have := REL.out; omega))
            rw [OS.out.1] at CR
            go_wp2_with fail
            refine CR.out.mono ?_
            rintro e w6 ⟨rfl, r6, h6, hr6, hl6⟩
            have FIN : Hid (∃ s r, Lp w w6 d x s r (i + 1)) := Lib.hid ⟨_, r6, h6.pr, hr6, by have := wrA_ws s o.sup; have := REL.out; omega, by have := REL.out; omega, cz_wrA s o.sup REL.out.2.2.2.2.2⟩
            clear h6 hr6 hl6 CR S5
            clear c0 c1 c2 c3 c4 c5 c6 c7 c8 c9 c10 c11 c12 c13
            obtain ⟨cc, hcc⟩ : ∃ c, c = (wrA s o.sup).2 := ⟨_, rfl⟩
            rw [← hcc]
            clear hcc
            go_wp2_with fail
            go_meet
            case rel => exact FIN
        ·
          by_cases k3 : kind = 3
          · as_aux_lemma =>
              subst k3
              obtain ⟨c0, c1, c2, c3, c4, c5, c6, c7, c8, c9, c10, c11, c12, c13⟩ := CC.out _ _ _ S1.out
              have CW := Lib.hid (sp_arm S1.out)
              rw [OS.out.2.1] at CW
              go_wp2_with fail
              refine CW.out.mono ?_
              rintro e w5 ⟨rfl, h5⟩
              have S5 := Lib.hid h5
              clear h5 CW S1
              clear c0 c1 c2 c3 c4 c5 c6 c7 c8 c9 c10 c11 c12 c13
              obtain ⟨c0, c1, c2, c3, c4, c5, c6, c7, c8, c9, c10, c11, c12, c13⟩ := CC.out _ _ _ S5.out
              have CR := Lib.hid (sp_rarm S5.out REL.out.1)
              rw [OS.out.2.1] at CR
              go_wp2_with fail
              refine CR.out.mono ?_
              rintro e w6 ⟨rfl, r6, h6, hr6, hl6⟩
              have FIN : Hid (∃ s r, Lp w w6 d x s r (i + 1)) := Lib.hid ⟨_, r6, h6.pr, hr6, by rw [armD_ws]; have := REL.out; omega, by have := REL.out; omega, cz_armD s _ REL.out.2.2.2.2.2⟩
              clear h6 hr6 hl6 CR S5
              clear c0 c1 c2 c3 c4 c5 c6 c7 c8 c9 c10 c11 c12 c13
              go_wp2_with fail
              go_meet
              case rel => exact FIN
          ·
            by_cases k4 : kind = 4
            · as_aux_lemma =>
                subst k4
                obtain ⟨c0, c1, c2, c3, c4, c5, c6, c7, c8, c9, c10, c11, c12, c13⟩ := CC.out _ _ _ S1.out
                have OF := Lib.hid (ownFates_any (.slice af nf cf) fs W1 (FY.out _ _ _ S1.out).1 (FY.out _ _ _ S1.out).2)
                go_wp2_with fail
                refine OF.out.mono ?_
                rintro e w5 ⟨v5, rfl, o5, b5⟩
                have S5 := Lib.hid (S1.out.below b5)
                have CW := Lib.hid (sp_crash S5.out (by have := REL.out; omega) o5)
                clear o5 b5 OF S1
                clear c0 c1 c2 c3 c4 c5 c6 c7 c8 c9 c10 c11 c12 c13
                go_wp2_with fail
                refine CW.out.mono ?_
                rintro e w6 ⟨cc, rfl, h6⟩
                have S6 := Lib.hid h6
                clear h6 CW S5
                obtain ⟨c0, c1, c2, c3, c4, c5, c6, c7, c8, c9, c10, c11, c12, c13⟩ := CC.out _ _ _ S6.out
                have OF := Lib.hid (ownFates_any (.slice af nf cf) fs w6 (FY.out _ _ _ S6.out).1 (FY.out _ _ _ S6.out).2)
                go_wp2_with fail
                refine OF.out.mono ?_
                rintro e w7 ⟨v7, rfl, o7, b7⟩
                have S7 := Lib.hid (S6.out.below b7)
                have CR := Lib.hid (sp_rcrash S7.out REL.out.1 (by have := REL.out; omega) o7)
                clear o7 b7 OF S6
                clear c0 c1 c2 c3 c4 c5 c6 c7 c8 c9 c10 c11 c12 c13
                go_wp2_with fail
                refine CR.out.mono ?_
                rintro e w8 ⟨c8, rfl, r8, h8, hr8, hl8⟩
                have FIN : Hid (∃ s r, Lp w w8 d x s r (i + 1)) := Lib.hid ⟨_, r8, h8.pr, hr8, by show s.ws ≤ i + 1; have := REL.out; omega, by have := REL.out; omega, Nat.zero_le _, fun _ => rfl⟩
                clear h8 hr8 hl8 CR S7
                go_wp2_with fail
                go_meet
                case rel => exact FIN
            ·
              by_cases k5 : kind = 5
              · as_aux_lemma =>
                  subst k5
                  obtain ⟨c0, c1, c2, c3, c4, c5, c6, c7, c8, c9, c10, c11, c12, c13⟩ := CC.out _ _ _ S1.out
                  have SD : Hid (Sp w W1.drew d x s r gx o) := Lib.hid (S1.out.below (Below.refl W1.heap.size W1).drew)
                  obtain ⟨_, _, _, _, _, _, _, _, _, _, d10, d11, d12, _⟩ := CC.out _ _ _ SD.out
                  have OW : Hid (∀ W s r, Sp w W d x s r gx o → Calls Try.prog 15 #[.slice ab nb' cb] W fun e w' => ∃ a c, e = .returned (.slice a ds.length c) ∧ Own W.heap.size w' (.slice a ds.length c) ds ∧ Sp w w' d x s r gx o) := Lib.hid (fun W s r h => by
                    refine (ownW_any _ ds W (BY.out _ _ _ h).1 (BY.out _ _ _ h).2).mono ?_
                    rintro e w' ⟨v', rfl, ho, hb⟩
                    obtain ⟨a, c, rfl⟩ := own_slice ho
                    exact ⟨a, c, rfl, ho, h.below hb⟩)
                  have CW : Hid (∀ W v, Sp w W d x s r gx o → Bytes W v ds → Calls Try.prog 14 #[.pointer (some ⟨d, 0, none⟩), .int .i64 on, .int .i64 oat, v] W fun e w' => e = .returned (.int .i64 (edD s on oat ds).2) ∧ Sp w w' d x (edD s on oat ds).1 r gx o) := Lib.hid (fun W v h hv => by have q := sp_edit h hv; rw [OS.out.2.1, OS.out.2.2] at q; exact q)
                  have CR : Hid (∀ W v, Sp w W d x (edD s on oat ds).1 r gx o → Bytes W v ds → Calls Try.prog 16 #[.pointer (some ⟨x, 0, none⟩), .int .i64 on, .int .i64 oat, v] W fun e w' => e = .returned (.int .i64 (edD s on oat ds).2) ∧ Hid (∃ s r, Lp w w' d x s r (i + 1)) ∧ w'.cell? ⟨gx, 10, none⟩ = some (.int .i64 on) ∧ w'.cell? ⟨gx, 11, none⟩ = some (.int .i64 oat) ∧ w'.cell? ⟨gx, 12, none⟩ = some (.slice ab nb' cb) ∧ w'.drew.cell? ⟨gx, 10, none⟩ = some (.int .i64 on) ∧ w'.drew.cell? ⟨gx, 11, none⟩ = some (.int .i64 oat) ∧ w'.drew.cell? ⟨gx, 12, none⟩ = some (.slice ab nb' cb)) := Lib.hid (fun W v h hv => by
                    have q := sp_redit h REL.out.1 (by have := REL.out; omega) hv
                    rw [OS.out.2.1, OS.out.2.2] at q
                    refine q.mono ?_
                    rintro e w' ⟨rfl, r', h1, h2, h3⟩
                    obtain ⟨_, _, _, _, _, _, _, _, _, _, t10, t11, t12, _⟩ := CC.out _ _ _ h1
                    obtain ⟨_, _, _, _, _, _, _, _, _, _, u10, u11, u12, _⟩ := CC.out _ _ _ (h1.below (Below.refl w'.heap.size w').drew)
                    exact ⟨rfl, Lib.hid ⟨_, r', h1.pr, h2, by rw [edD_ws]; have := REL.out; omega, by have := REL.out; omega, cz_edD s _ _ _ REL.out.2.2.2.2.2⟩, t10, t11, t12, u10, u11, u12⟩)
                  obtain ⟨E, hE⟩ : ∃ E, E = edD s on oat ds := ⟨_, rfl⟩
                  rw [← hE] at CW CR
                  obtain ⟨s', cc⟩ := E
                  clear hE
                  simp only at CW CR
                  go_upto_region 24 with fail
                  go_cut [] (fun wx => Hid (Sp w wx d x s' r gx o))
                  case first => as_aux_lemma =>
                    go_region_held3 (fun W : World => W.cell? ⟨gx, 10, none⟩ = some (.int .i64 on) ∧ W.cell? ⟨gx, 11, none⟩ = some (.int .i64 oat) ∧ W.cell? ⟨gx, 12, none⟩ = some (.slice ab nb' cb)) (first | exact ⟨by assumption, by assumption, by assumption⟩ | go_keep) (first
                      | (go_at_call 15
                         refine (OW.out _ _ _ (by first | exact S1.out | exact SD.out)).mono ?_
                         rintro e w5 ⟨a5, c5, rfl, o5, h5⟩
                         have S5 := Lib.hid (And.intro h5 o5)
                         have D5 : Hid (Sp w w5.drew d x s r gx o) := Lib.hid (h5.below (Below.refl w5.heap.size w5).drew)
                         obtain ⟨_, _, _, _, _, _, _, _, _, _, p10, p11, p12, _⟩ := CC.out _ _ _ h5
                         obtain ⟨_, _, _, _, _, _, _, _, _, _, q10, q11, q12, _⟩ := CC.out _ _ _ D5.out
                         clear h5 o5)
                      | (go_at_call 14
                         refine (CW.out _ _ (by first | exact S5.out.1 | exact D5.out) (by first | exact S5.out.2.bytes | exact (S5.out.2.below (Below.refl _ _).drew).bytes)).mono ?_
                         rintro e w6 ⟨rfl, h6⟩
                         have S6 := Lib.hid h6
                         have D6 : Hid (Sp w w6.drew d x s' r gx o) := Lib.hid (h6.below (Below.refl w6.heap.size w6).drew)
                         obtain ⟨_, _, _, _, _, _, _, _, _, _, t10, t11, t12, _⟩ := CC.out _ _ _ h6
                         obtain ⟨_, _, _, _, _, _, _, _, _, _, u10, u11, u12, _⟩ := CC.out _ _ _ D6.out
                         clear h6))
                    all_goals
                      go_wp2_with fail
                      go_meet
                      case rel => first | exact S6 | exact D6
                  case rest => as_aux_lemma =>
                    have S2 := hcut
                    clear hcut S1 SD CW
                    clear c0 c1 c2 c3 c4 c5 c6 c7 c8 c9 c10 c11 c12 c13
                    clear d10 d11 d12
                    obtain ⟨c0, c1, c2, c3, c4, c5, c6, c7, c8, c9, c10, c11, c12, c13⟩ := CC.out _ _ _ S2.out
                    have SD : Hid (Sp w wc.drew d x s' r gx o) := Lib.hid (S2.out.below (Below.refl wc.heap.size wc).drew)
                    obtain ⟨_, _, _, _, _, _, _, _, _, _, d10, d11, d12, _⟩ := CC.out _ _ _ SD.out
                    go_wp2_with fail
                    go_region_held3 (fun W : World => W.cell? ⟨gx, 10, none⟩ = some (.int .i64 on) ∧ W.cell? ⟨gx, 11, none⟩ = some (.int .i64 oat) ∧ W.cell? ⟨gx, 12, none⟩ = some (.slice ab nb' cb)) (first | exact ⟨by assumption, by assumption, by assumption⟩ | go_keep) (first
                      | (go_at_call 15
                         refine (OW.out _ _ _ (by first | exact S2.out | exact SD.out)).mono ?_
                         rintro e w5 ⟨a5, c5, rfl, o5, h5⟩
                         have S5 := Lib.hid (And.intro h5 o5)
                         have D5 : Hid (Sp w w5.drew d x s' r gx o) := Lib.hid (h5.below (Below.refl w5.heap.size w5).drew)
                         obtain ⟨_, _, _, _, _, _, _, _, _, _, p10, p11, p12, _⟩ := CC.out _ _ _ h5
                         obtain ⟨_, _, _, _, _, _, _, _, _, _, q10, q11, q12, _⟩ := CC.out _ _ _ D5.out
                         clear h5 o5)
                      | (go_at_call 16
                         refine (CR.out _ _ (by first | exact S5.out.1 | exact D5.out) (by first | exact S5.out.2.bytes | exact (S5.out.2.below (Below.refl _ _).drew).bytes)).mono ?_
                         rintro e w6 ⟨rfl, h6, t10, t11, t12, u10, u11, u12⟩
                         have S6 := h6
                         have D6 : Hid (∃ s r, Lp w w6.drew d x s r (i + 1)) := Lib.hid (by obtain ⟨s3, r3, h3⟩ := h6.out; exact ⟨s3, r3, h3.below (Below.refl w6.heap.size w6).drew⟩)
                         clear h6))
                    all_goals
                      go_wp2_with fail
                      go_meet
                      case rel => first | exact S6 | exact D6
              ·
                by_cases k6 : kind = 6
                · as_aux_lemma =>
                    subst k6
                    obtain ⟨c0, c1, c2, c3, c4, c5, c6, c7, c8, c9, c10, c11, c12, c13⟩ := CC.out _ _ _ S1.out
                    have CN := Lib.hid (read_nil W1)
                    go_wp2_with fail
                    refine CN.out.mono ?_
                    rintro e w5 ⟨rfl, b5⟩
                    have S5 := Lib.hid (S1.out.below b5)
                    clear b5 CN S1
                    clear c0 c1 c2 c3 c4 c5 c6 c7 c8 c9 c10 c11 c12 c13
                    obtain ⟨g14, hg14⟩ : ∃ g, g = w5.heap.size := ⟨_, rfl⟩
                    have hg14' := hg14.symm
                    have H14 := Lib.hid hg14
                    clear hg14
                    unfold zeroS Sup.arr
                    simp only
                    go_upto_region 28 with fail
                    obtain ⟨W5, hW5⟩ : ∃ W, W = w5.alloc (.cells #[.int .i64 0, .int .i64 0, .int .i64 0, .int .i64 0, .int .i64 0, .int .i64 0, .int .i64 0, .int .i64 0, .int .i64 0] 34) := ⟨_, rfl⟩
                    have S6 : Hid (Sp w W5 d x s r gx o ∧ W5.heap[g14]? = some (.cells zeroS.arr 34 (0, 0))) := Lib.hid ⟨S5.out.below (by rw [hW5]; exact (Below.refl _ _).alloc (Nat.le_refl _) _), by rw [hW5, H14.out]; exact heap_alloc_new _ _⟩
                    have hW5' := hW5.symm
                    obtain ⟨c0, c1, c2, c3, c4, c5, c6, c7, c8, c9, c10, c11, c12, c13⟩ := CC.out _ _ _ S6.out.1
                    have CN := Lib.hid (fun S => write_nil S W5)
                    clear hW5
                    rw [hW5']
                    go_wp2_with fail
                    have CM := CN.out ⟨xgen, xep, xblk, xlog, xst, xpl, xrt, xcnt, xver⟩
                    refine CM.mono ?_
                    rintro e w6 ⟨rfl, b6⟩
                    have S7 : Hid (Sp w w6 d x s r gx o ∧ w6.heap[g14]? = some (.cells zeroS.arr 34 (0, 0))) := Lib.hid ⟨S6.out.1.below b6, (b6.block _ (lt_of_heap S6.out.2)).trans S6.out.2⟩
                    clear b6 CN CM S6 S5 hW5' hg14' H14
                    clear c0 c1 c2 c3 c4 c5 c6 c7 c8 c9 c10 c11 c12 c13
                    obtain ⟨y0, y1, y2, y3, y4, y5, y6, y7, y8⟩ := sup_cells S7.out.2
                    unfold zeroS at y0 y1 y2 y3 y4 y5 y6 y7 y8
                    simp only at y0 y1 y2 y3 y4 y5 y6 y7 y8
                    go_wp2_with fail
                    go_meet
                    case rel => exact Lib.hid ⟨s, r, S7.out.1.pr, REL.out.1, by have := REL.out; omega, by have := REL.out; omega, REL.out.2.2.2.2.2⟩
                ·
                  have n1 : (kind == 1) = false := by rw [beq_eq_false_iff_ne]; exact k1
                  have n3 : (kind == 3) = false := by rw [beq_eq_false_iff_ne]; exact k3
                  have n4 : (kind == 4) = false := by rw [beq_eq_false_iff_ne]; exact k4
                  have n5 : (kind == 5) = false := by rw [beq_eq_false_iff_ne]; exact k5
                  have n6 : (kind == 6) = false := by rw [beq_eq_false_iff_ne]; exact k6
                  clear k1 k3 k4 k5 k6
                  obtain ⟨c0, c1, c2, c3, c4, c5, c6, c7, c8, c9, c10, c11, c12, c13⟩ := CC.out _ _ _ S1.out
                  go_wp2_with fail
                  go_meet
                  case rel => exact Lib.hid ⟨s, r, S1.out.pr, REL.out.1, by have := REL.out; omega, by have := REL.out; omega, REL.out.2.2.2.2.2⟩
      case rest => as_aux_lemma =>
        obtain ⟨s2, r2, LP2⟩ := hcut.out
        have LP := Lib.hid LP2
        clear hcut LP2 S1 CC REL BY FY OS
        obtain ⟨T, hT⟩ : ∃ T, T = readR s2 := ⟨_, rfl⟩
        have RE := Lib.hid (pr_read LP.out.pr)
        have RR : Hid (∀ W, Pr w W d x (redS s2) r2 → _) := Lib.hid (fun W h => pr_rread (s0 := s2) h LP.out.rel LP.out.pr.fit)
        rw [← hT] at RE
        simp only [← hT] at RR
        obtain ⟨⟨xgen, xep, xblk, xlog, xst, xpl, xrt, xcnt, xver⟩, tn, tc⟩ := T
        unfold Sup.arr at RE RR
        simp only at RE RR
        clear hT
        go_wp2_with fail
        refine RE.out.mono ?_
        rintro e w5 ⟨rfl, h5, l5⟩
        have S5 := Lib.hid h5
        clear h5 l5 RE
        obtain ⟨g18, hg18⟩ : ∃ g, g = w5.heap.size := ⟨_, rfl⟩
        obtain ⟨W5, hW5⟩ : ∃ W, W = w5.alloc (.cells #[.int .i64 xgen, .int .i64 xep, .int .i64 xblk, .int .i64 xlog, .int .i64 xst, .int .i64 xpl, .int .i64 xrt, .int .i64 xcnt, .int .i64 xver] 34) := ⟨_, rfl⟩
        have S6 : Hid (Pr w W5 d x (redS s2) r2 ∧ W5.heap[g18]? = some (.cells (Sup.mk xgen xep xblk xlog xst xpl xrt xcnt xver).arr 34 (0, 0))) := Lib.hid ⟨S5.out.below (by rw [hW5]; exact (Below.refl _ _).alloc (Nat.le_refl _) _), by rw [hW5, hg18]; exact heap_alloc_new _ _⟩
        have R6 := Lib.hid (RR.out _ S6.out.1)
        have hW5' := hW5.symm
        have hg18' := hg18.symm
        clear hW5 hg18 S5 RR
        go_wp2_with fail
        refine R6.out.mono ?_
        rintro e w7 ⟨rfl, r7, h7, l7, hr7, hl7⟩
        have S7 : Hid (Pr w w7 d x (redS s2) r7 ∧ w7.heap[g18]? = some (.cells (Sup.mk xgen xep xblk xlog xst xpl xrt xcnt xver).arr 34 (0, 0))) := Lib.hid ⟨h7, l7.box _ _ _ _ (by decide) (by decide) (by decide) (by decide) (by decide) S6.out.2⟩
        have Q7 := Lib.hid (And.intro hr7 hl7)
        clear h7 l7 hr7 hl7 R6 S6 hW5' hg18'
        obtain ⟨g21, hg21⟩ : ∃ g, g = w7.heap.size := ⟨_, rfl⟩
        obtain ⟨W7, hW7⟩ : ∃ W, W = w7.alloc (.cells #[.int .i64 xgen, .int .i64 xep, .int .i64 xblk, .int .i64 xlog, .int .i64 xst, .int .i64 xpl, .int .i64 xrt, .int .i64 xcnt, .int .i64 xver] 34) := ⟨_, rfl⟩
        have B7 : Hid (Below w7.heap.size w7 W7) := Lib.hid (by rw [hW7]; exact (Below.refl _ _).alloc (Nat.le_refl _) _)
        have S8 : Hid (Pr w W7 d x (redS s2) r7 ∧ W7.heap[g18]? = some (.cells (Sup.mk xgen xep xblk xlog xst xpl xrt xcnt xver).arr 34 (0, 0)) ∧ W7.heap[g21]? = some (.cells (Sup.mk xgen xep xblk xlog xst xpl xrt xcnt xver).arr 34 (0, 0))) := Lib.hid ⟨S7.out.1.below B7.out, (B7.out.block _ (lt_of_heap S7.out.2)).trans S7.out.2, by rw [hW7, hg21]; exact heap_alloc_new _ _⟩
        have hW7' := hW7.symm
        have hg21' := hg21.symm
        have CN := Lib.hid (pr_counts S8.out.1)
        obtain ⟨kr, kw, kf, hk⟩ : ∃ a b c, a = (redS s2).cr ∧ b = (redS s2).cw ∧ c = (redS s2).cf := ⟨_, _, _, rfl, rfl, rfl⟩
        rw [← hk.1, ← hk.2.1, ← hk.2.2] at CN
        have HK := Lib.hid hk
        clear hW7 hg21 S7 B7 hk
        go_wp2_with fail
        refine CN.out.mono ?_
        rintro e w9 ⟨rfl, b9⟩
        obtain ⟨g24, hg24⟩ : ∃ g, g = w9.heap.size := ⟨_, rfl⟩
        obtain ⟨W9, hW9⟩ : ∃ W, W = w9.alloc (.cells #[.int .i64 kr, .int .i64 kw, .int .i64 kf] 50) := ⟨_, rfl⟩
        have B9 : Hid (Below W7.heap.size W7 W9 ∧ Below w9.heap.size w9 W9) := Lib.hid (by
          have q : Below w9.heap.size w9 W9 := by rw [hW9]; exact (Below.refl _ _).alloc (Nat.le_refl _) _
          exact ⟨b9.trans (q.mono b9.size), q⟩)
        have S9 : Hid (Pr w W9 d x (redS s2) r7 ∧ W9.heap[g18]? = some (.cells (Sup.mk xgen xep xblk xlog xst xpl xrt xcnt xver).arr 34 (0, 0)) ∧ W9.heap[g21]? = some (.cells (Sup.mk xgen xep xblk xlog xst xpl xrt xcnt xver).arr 34 (0, 0)) ∧ W9.heap[g24]? = some (.cells #[.int .i64 kr, .int .i64 kw, .int .i64 kf] 50 (0, 0))) := Lib.hid ⟨S8.out.1.below B9.out.1, (B9.out.1.block _ (lt_of_heap S8.out.2.1)).trans S8.out.2.1, (B9.out.1.block _ (lt_of_heap S8.out.2.2)).trans S8.out.2.2, by rw [hW9, hg24]; exact heap_alloc_new _ _⟩
        have hW9' := hW9.symm
        have hg24' := hg24.symm
        have CM := Lib.hid (pr_rcounts S9.out.1)
        rw [Q7.out.1.cw, Q7.out.1.cf, ← HK.out.2.1, ← HK.out.2.2] at CM
        obtain ⟨kq, hkq⟩ : ∃ q, q = r7.cr := ⟨_, rfl⟩
        rw [← hkq] at CM
        clear b9 hW9 hg24 S8 B9 CN hW7' hg21' hkq
        go_wp2_with fail
        refine CM.out.mono ?_
        rintro e w10 ⟨rfl, b10⟩
        obtain ⟨g25, hg25⟩ : ∃ g, g = w10.heap.size := ⟨_, rfl⟩
        obtain ⟨W10, hW10⟩ : ∃ W, W = w10.alloc (.cells #[.int .i64 kq, .int .i64 kw, .int .i64 kf] 50) := ⟨_, rfl⟩
        have B10 : Hid (Below W9.heap.size W9 W10) := Lib.hid (by
          have q : Below w10.heap.size w10 W10 := by rw [hW10]; exact (Below.refl _ _).alloc (Nat.le_refl _) _
          exact b10.trans (q.mono b10.size))
        have S10 : Hid (Pr w W10 d x (redS s2) r7) := Lib.hid (S9.out.1.below B10.out)
        obtain ⟨x0, x1, x2, x3, x4, x5, x6, x7, x8⟩ := sup_cells (W := W10) ((B10.out.block _ (lt_of_heap S9.out.2.1)).trans S9.out.2.1)
        obtain ⟨y0, y1, y2, y3, y4, y5, y6, y7, y8⟩ := sup_cells (W := W10) ((B10.out.block _ (lt_of_heap S9.out.2.2.1)).trans S9.out.2.2.1)
        simp only at x0 x1 x2 x3 x4 x5 x6 x7 x8 y0 y1 y2 y3 y4 y5 y6 y7 y8
        have z1 : W10.cell? ⟨g24, 1, none⟩ = some (.int .i64 kw) := by rw [cell_of_row _ _ _ _ _ _ ((B10.out.block _ (lt_of_heap S9.out.2.2.2)).trans S9.out.2.2.2)]; rfl
        have z2 : W10.cell? ⟨g24, 2, none⟩ = some (.int .i64 kf) := by rw [cell_of_row _ _ _ _ _ _ ((B10.out.block _ (lt_of_heap S9.out.2.2.2)).trans S9.out.2.2.2)]; rfl
        have t0 : W10.heap[g25]? = some (.cells #[.int .i64 kq, .int .i64 kw, .int .i64 kf] 50 (0, 0)) := by rw [hW10, hg25]; exact heap_alloc_new _ _
        have t1 : W10.cell? ⟨g25, 1, none⟩ = some (.int .i64 kw) := by rw [cell_of_row _ _ _ _ _ _ t0]; rfl
        have t2 : W10.cell? ⟨g25, 2, none⟩ = some (.int .i64 kf) := by rw [cell_of_row _ _ _ _ _ _ t0]; rfl
        have hW10' := hW10.symm
        have hg25' := hg25.symm
        clear b10 hW10 hg25 S9 B10 CM hW9' hg24' t0
        have FIN : Hid (∃ s r, Lp w W10 d x s r (i + 1)) := Lib.hid ⟨_, r7, S10.out, Q7.out.1, by rw [redS_ws]; exact LP.out.ws, by have := LP.out.ln; have := Q7.out.2; omega, cz_redS s2 LP.out.cz⟩
        go_wp2_with fail
        go_roundg (m - (i + 1))
        case measure => have := G.out; omega
        case rel => exact ⟨i + 1, by omega, rfl, by go_num, FIN⟩
    · obtain ⟨s, r, LP0⟩ := S.out
      have MD := Lib.hid (pr_med LP0.pr)
      have LP := Lib.hid LP0
      clear S LP0
      go_wp2_with fail
      refine MD.out.mono ?_
      rintro e w5 ⟨v5, rfl, o5, b5⟩
      have MR := Lib.hid (pr_rmed (s0 := s) (LP.out.pr.below b5) LP.out.rel)
      have O5 := Lib.hid (And.intro o5 b5)
      clear o5 b5 MD
      go_wp2_with fail
      refine MR.out.mono ?_
      rintro e w6 ⟨v6, rfl, o6, b6⟩
      have SM := Lib.hid (sameW_any v5 v6 s.med s.med w6 (O5.out.1.below b6).bytes o6.bytes)
      have B6 : Hid (Below w.heap.size w w6) := Lib.hid (LP.out.pr.bel.trans ((O5.out.2.trans (b6.mono O5.out.2.size)).mono LP.out.pr.bel.size))
      clear o6 b6 MR O5
      go_wp2_with fail
      refine SM.out.mono ?_
      rintro e w7 ⟨rfl, rfl⟩
      simp only [decide_true]
      clear SM LP
      go_wp2_with fail
      go_ret
      exact ⟨rfl, B6.out⟩
end Rf
end Go.Proofs.Ytbdlebengmbooaa
