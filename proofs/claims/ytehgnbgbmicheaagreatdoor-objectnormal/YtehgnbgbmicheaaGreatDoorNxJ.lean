/-
  The law's shuffled, walked.
-/
import Derived.Test.YtehgnbgbmicheaaGreatDoorNxG3
import Derived.Test.YtehgnbgbmicheaaGreatDoorOpenI
import Derived.Deep.CutRange
namespace Go.Proofs.YtehgnbgbmicheaaGreatDoor
open Go.RowKit Go.Sort Go.Lib
namespace Nx
set_option maxHeartbeats 16000000 in
set_option maxRecDepth 100000 in
theorem shuffled_any (n : Ob) (u v vt vc : Value) (ts cs : List Int) (w : World) (hx : ObV w u v n) (hfit : n.Fit) (hfew : n.ls.length ≤ 16 ∧ n.ps.length ≤ 8 ∧ ∀ p ∈ n.ps, p.r.length ≤ 16 ∧ p.l.length ≤ 16)
    (ht : Row kI w vt ts) (hti : InR ts) (hc : Row kJ w vc cs) (hci : InR cs) :
    Calls Tryz.prog 9 #[n.val u v, vt, vc] w fun e w' => ∃ vl vp, e = .returned ((shf n ts cs).val vl vp) ∧ ObO w.heap.size w' vl vp (shf n ts cs) ∧ Below w.heap.size w w' := by
  obtain ⟨op, on, ols, opr, odl, ops, ov⟩ := n
  have V := Lib.hid hx
  obtain ⟨la, lc, rfl, hlc, hcm⟩ := hx.l.len
  obtain ⟨pa, pc, rfl, hlp, hcp⟩ := hx.p.len
  obtain ⟨ta, tc, rfl, htl, htm⟩ := ht.len
  obtain ⟨ca, cc, rfl, hcl, hcc⟩ := hc.len
  unfold maxLen at hcm hcp htm hcc
  unfold Ob.val
  simp only at hlc hlp V hfew ⊢
  have HT := Lib.hid (And.intro ht (And.intro hti (And.intro hc hci)))
  have HF := Lib.hid (And.intro hfit hfew)
  obtain ⟨nl, hnl⟩ : ∃ nl, nl = ols.length := ⟨_, rfl⟩
  obtain ⟨np, hnp⟩ : ∃ np, np = ops.length := ⟨_, rfl⟩
  obtain ⟨nt, hnt⟩ : ∃ nt, nt = ts.length := ⟨_, rfl⟩
  obtain ⟨nc, hnc⟩ : ∃ nc, nc = cs.length := ⟨_, rfl⟩
  rw [← hnl] at hlc V ⊢
  rw [← hnp] at hlp V ⊢
  rw [← hnt] at htl HT ⊢
  rw [← hnc] at hcl HT ⊢
  have HN := Lib.hid (And.intro hnl (And.intro hnp (And.intro hnt hnc)))
  have NP : np ≤ 8 := by rw [hnp]; exact hfew.2.1
  have NL : nl ≤ 16 := by rw [hnl]; exact hfew.1
  have NT : nt ≤ 17592186044416 := by rw [hnt]; have := hti.2; omega
  have NC : nc ≤ 17592186044416 := by rw [hnc]; have := hci.2; omega
  clear hx hnl hnp hnt hnc ht hti hc hci hfit hfew
  obtain ⟨X1, hX1⟩ : ∃ X1, X1 = w.alloc (.cells #[.string op, .string on, (.slice la nl lc), .int .i64 opr, .int .i64 odl, (.slice pa np pc), .int .i64 ov] 25) := ⟨_, rfl⟩
  obtain ⟨X2, hX2⟩ : ∃ X2, X2 = X1.alloc (.cells #[.string ⟨#[]⟩, .string ⟨#[]⟩, .slice none 0 0, .int .i64 0, .int .i64 0, .slice none 0 0, .int .i64 0] 25) := ⟨_, rfl⟩
  have s1 : X1.heap.size = w.heap.size + 1 := by rw [hX1]; simp
  have B1 : Below w.heap.size w X1 := by rw [hX1]; exact (Below.refl _ w).alloc (Nat.le_refl _) _
  have B2 : Below X1.heap.size X1 X2 := by rw [hX2]; exact (Below.refl _ X1).alloc (Nat.le_refl _) _
  have BX : Hid (Below w.heap.size w X2 ∧ X2.heap[w.heap.size + 1]? = some (.cells #[.string ⟨#[]⟩, .string ⟨#[]⟩, .slice none 0 0, .int .i64 0, .int .i64 0, .slice none 0 0, .int .i64 0] 25 (0, 0))) := Lib.hid ⟨B1.trans (B2.mono B1.size), by rw [hX2, ← s1, heap_alloc_new]⟩
  have OWN := Lib.hid (ownObject_ap ⟨op, on, ols, opr, odl, ops, ov⟩ (.slice la nl lc) (.slice pa np pc) X2 (V.out.below BX.out.1) (by have := HF.out.2.1; simp only; omega) (by have := HF.out.2.2.1; simp only; omega) (fun y hy => by have := HF.out.2.2.2 y hy; omega))
  unfold Ob.val at OWN
  simp only at OWN
  have EX : Hid (X2 = (w.alloc (.cells #[.string op, .string on, (.slice la nl lc), .int .i64 opr, .int .i64 odl, (.slice pa np pc), .int .i64 ov] 25)).alloc (.cells #[.string ⟨#[]⟩, .string ⟨#[]⟩, .slice none 0 0, .int .i64 0, .int .i64 0, .slice none 0 0, .int .i64 0] 25)) := Lib.hid (by rw [hX2, hX1])
  clear hX1 hX2 s1 B1 B2
  go_enter Tryz.func9, Tryz.ntmps9
  go_wp2_with fail
  rw [← EX.out]
  clear EX
  refine OWN.out.mono ?_
  rintro e w1 ⟨vl, vp, rfl, ⟨rs, hol, hop, hoq, hap⟩, hb1⟩
  obtain ⟨al, cl, rfl⟩ := hol.slice
  obtain ⟨ap, cp, rfl⟩ := hop.slice
  obtain ⟨bz, hbz⟩ : ∃ bz, bz = w.heap.size + 1 := ⟨_, rfl⟩
  obtain ⟨bo, hbo⟩ : ∃ bo, bo = w1.heap.size := ⟨_, rfl⟩
  have B1 := Lib.hid (And.intro hb1 BX.out)
  have LN : ols.length = nl ∧ ops.length = np ∧ rs.length = np := ⟨HN.out.1.symm, HN.out.2.1.symm, by rw [hoq.1]; exact HN.out.2.1.symm⟩
  rw [LN.1, LN.2.2]
  rw [LN.1] at hol
  rw [LN.2.2] at hop
  obtain ⟨X3, hX3⟩ : ∃ X3, X3 = w1.alloc (.cells #[.string op, .string on, (.slice al nl cl), .int .i64 opr, .int .i64 odl, (.slice ap np cp), .int .i64 ov] 25) := ⟨_, rfl⟩
  have T0 : Hid (SH w bz bo ⟨op, on, ols, opr, odl, ops, ov⟩ (.slice al nl cl) (.slice ap np cp) ols rs rs ops X3) := Lib.hid (by
    have b3 : Below w1.heap.size w1 X3 := by rw [hX3]; exact (Below.refl _ w1).alloc (Nat.le_refl _) _
    have sz := BX.out.1.size
    have sy := hb1.size
    have lz := lt_of_some BX.out.2
    have be : Below w.heap.size w w1 := BX.out.1.trans (hb1.mono sz)
    refine ⟨?_, by rw [hX3, hbo, heap_alloc_new], (hol.mono sz).below b3, (hop.mono sz).below b3, ⟨hoq.1, fun k hk => ⟨(hoq.2 k hk).1, ((hoq.2 k hk).2.1.mono sz).below b3, ((hoq.2 k hk).2.2.mono sz).below b3⟩⟩, be.trans (b3.mono (by omega)), by omega, hap⟩
    rw [hbz, b3.block _ (by omega), hb1.block _ lz]
    exact BX.out.2)
  have hX3' := hX3.symm
  have hbo' := hbo.symm
  have hbz' := hbz.symm
  clear hol hop hoq hap hb1 hX3 hbo hbz LN OWN
  go_wp2_with fail
  clear hX3'
  go_loopg [8, 9, 10, 11] np (fun gg s8 _ _ _ wr => ∃ (i : Nat) (r0 : List Pr), i ≤ np ∧ gg = np - i ∧ s8 = .int .i64 i ∧ Hid (SH w bz bo ⟨op, on, ols, opr, odl, ops, ov⟩ (.slice al nl cl) (.slice ap np cp) ols r0 r0 (ctN cs ops i) wr))
  case atStart => exact ⟨0, rs, Nat.zero_le _, rfl, rfl, T0⟩
  case round =>
    clear T0
    obtain ⟨i, r0, hi, hg, rfl, S1⟩ := hrel
    have GI := Lib.hid hg
    clear hg
    have k5 : wr.cell? ⟨bo, 5, none⟩ = some (.slice ap np cp) := by rw [cell_of_row wr _ 5 _ _ _ S1.out.o]; rfl
    by_cases hlt : i < np
    · as_aux_lemma =>
        have hlt' : (i : Int) < (np : Int) := by omega
        have LR : Hid (r0.length = np ∧ (ctN cs ops i).length = np) := Lib.hid ⟨by rw [S1.out.q.1, ctN_len]; exact HN.out.2.1.symm, by rw [ctN_len]; exact HN.out.2.1.symm⟩
        obtain ⟨g, ha0, -, hBg, hgs⟩ := S1.out.p.someOf (by rw [LR.out.1]; omega)
        obtain ⟨off, ha, hoff⟩ : ∃ off, ap = some ⟨g, off, none⟩ ∧ off = 0 := ⟨0, ha0, rfl⟩
        clear ha0
        subst ha
        have OF := Lib.hid hoff
        have HG := Lib.hid (And.intro hBg hgs)
        clear hoff hBg hgs
        obtain ⟨x, hx⟩ : ∃ x, x = r0.getD i kPt.z := ⟨_, rfl⟩
        obtain ⟨P, hP⟩ : ∃ P, P = (ctN cs ops i).getD i zP := ⟨_, rfl⟩
        have PI := S1.out.q.2 i (by rw [LR.out.2]; exact hlt)
        rw [← hx, show (ctN cs ops i).getD i ⟨⟨#[]⟩, [], []⟩ = P from hP.symm] at PI
        have EP : Hid (P = ops.getD i zP ∧ P ∈ ops) := Lib.hid (by
          have e : P = ops.getD i zP := by rw [hP]; exact (ctN_all (Q := fun _ => True) (R := fun _ => True) cs (fun _ _ => trivial) (fun _ _ => trivial) (fun _ _ => trivial) i (by rw [← HN.out.2.1]; omega)).2 i (Nat.le_refl _)
          exact ⟨e, by rw [e]; exact getD_in (by rw [← HN.out.2.1]; exact hlt)⟩)
        obtain ⟨b', off', e', hc⟩ := (S1.out.p.row okPt).at i (by rw [LR.out.1]; exact hlt)
        simp only [Option.some.injEq, Addr.mk.injEq, and_true] at e'
        obtain ⟨rfl, rfl⟩ := e'
        rw [← hx] at hc
        obtain ⟨xn, ⟨ra1, ra2, ra3⟩, rb⟩ := x
        obtain ⟨pn, prr, pll⟩ := P
        have c0 : wr.cell? ⟨g, off + i * 3, none⟩ = some (.string xn) := hc 0 _ rfl
        have c1 : wr.cell? ⟨g, off + i * 3 + 1, none⟩ = some (.slice ra1 ra2 ra3) := hc 1 _ rfl
        have c2 : wr.cell? ⟨g, off + i * 3 + 2, none⟩ = some rb.v := hc 2 _ rfl
        simp only at PI
        have PH := Lib.hid PI
        have RL : Hid (ra2 = prr.length ∧ prr.length ≤ 16 ∧ pll.length ≤ 16 ∧ (∀ y ∈ prr, y.fit)) := Lib.hid ⟨own_len PH.out.2.1, (HF.out.2.2.2 _ EP.out.2).1, (HF.out.2.2.2 _ EP.out.2).2, (HF.out.1.p _ EP.out.2).2.1⟩
        have r16 : ra2 ≤ 16 := by rw [RL.out.1]; exact RL.out.2.1
        have HX := Lib.hid (And.intro hx hP)
        obtain ⟨rbv, hrb⟩ : ∃ rbv, rbv = rb.v := ⟨_, rfl⟩
        rw [← hrb] at c2
        have HRB := Lib.hid hrb
        have hrs : ∃ rc1 rc2 rc3, rbv = .slice rc1 rc2 rc3 := ⟨_, _, _, hrb⟩
        obtain ⟨rc1, rc2, rc3, rfl⟩ := hrs
        clear PI hc hx hP hrb
        obtain ⟨X, hX⟩ : ∃ X, X = wr.alloc (.cells #[.string xn, .slice ra1 ra2 ra3, .slice rc1 rc2 rc3] 52) := ⟨_, rfl⟩
        obtain ⟨bx, hbx⟩ : ∃ bx, bx = wr.heap.size := ⟨_, rfl⟩
        have AX : Hid (Below wr.heap.size wr X ∧ X.heap[bx]? = some (.cells #[.string xn, .slice ra1 ra2 ra3, .slice rc1 rc2 rc3] 52 (0, 0))) := Lib.hid (by rw [hX, hbx]; exact ⟨(Below.refl _ wr).alloc (Nat.le_refl _) _, heap_alloc_new _ _⟩)
        have GX : Hid (g ≠ bx ∧ w.heap.size ≤ bx) := Lib.hid ⟨by have := HG.out.2; omega, by rw [hbx]; exact S1.out.be.size⟩
        have x1 : X.cell? ⟨bx, 1, none⟩ = some (.slice ra1 ra2 ra3) := by rw [cell_of_row _ _ _ _ _ _ AX.out.2]; rfl
        have T2 : Hid (SH w bz bo ⟨op, on, ols, opr, odl, ops, ov⟩ (.slice al nl cl) (.slice (some ⟨g, off, none⟩) np cp) ols r0 (r0.set i ⟨xn, ⟨ra1, ra2, ra3⟩, rb⟩) ((ctN cs ops i).set i ⟨pn, ckN cs prr 0, pll⟩) X) := Lib.hid (by
          have q := S1.out.below AX.out.1
          have e1 : r0.set i ⟨xn, ⟨ra1, ra2, ra3⟩, rb⟩ = r0 := by
            rw [HX.out.1, getD_ge _ _ _ (by rw [LR.out.1]; exact hlt)]; exact List.set_getElem_self _
          have e2 : (ctN cs ops i).set i ⟨pn, ckN cs prr 0, pll⟩ = ctN cs ops i := by
            show (ctN cs ops i).set i ⟨pn, prr, pll⟩ = _
            rw [HX.out.2, getD_ge _ _ _ (by rw [LR.out.2]; exact hlt)]; exact List.set_getElem_self _
          rw [e1, e2]
          exact q)
        have hX' := hX.symm
        have hbx' := hbx.symm
        clear hX hbx
        go_wp2_with fail
        clear x1 hX' hbx' c0 c1 c2 k5
        go_loopg [11] ra2 (fun gg s11 ws => ∃ (k : Nat) (s : Sl), k ≤ ra2 ∧ k ≤ nc ∧ gg = ra2 - k ∧ s11 = .int .i64 k ∧ Hid (ws.heap[bx]? = some (.cells #[.string xn, s.v, .slice rc1 rc2 rc3] 52 (0, 0)) ∧ SH w bz bo ⟨op, on, ols, opr, odl, ops, ov⟩ (.slice al nl cl) (.slice (some ⟨g, off, none⟩) np cp) ols r0 (r0.set i ⟨xn, s, rb⟩) ((ctN cs ops i).set i ⟨pn, ckN cs prr k, pll⟩) ws))
        case atStart => exact ⟨0, ⟨ra1, ra2, ra3⟩, Nat.zero_le _, Nat.zero_le _, rfl, rfl, Lib.hid ⟨AX.out.2, T2.out⟩⟩
        case round =>
          clear T2
          obtain ⟨k, s, hk, hkc, hg, rfl, S2⟩ := hrel
          have GK := Lib.hid hg
          clear hg
          by_cases hkm : k < ra2
          · by_cases hkn : k < nc
            · as_aux_lemma =>
                have hkm' : (k : Int) < (ra2 : Int) := by omega
                have hkn' : (k : Int) < (nc : Int) := by omega
                have gm : decide ((k : Int) < (ra2 : Int)) = true := decide_eq_true hkm'
                have gn : decide ((k : Int) < (nc : Int)) = true := decide_eq_true hkn'
                have gm2 : decide (k < ra2) = true := decide_eq_true hkm
                have gn2 : decide (k < nc) = true := decide_eq_true hkn
                obtain ⟨bc, oc, eca, hcc'⟩ := (HT.out.2.2.1.below S2.out.2.be).at k (by rw [← HN.out.2.2.2]; exact hkn)
                subst eca
                obtain ⟨ck, hck⟩ : ∃ ck, ck = cs.getD k 0 := ⟨_, rfl⟩
                have q0 : wr.cell? ⟨bc, oc + k, none⟩ = some (.int .i64 ck) := by
                  have := hcc' 0 _ rfl
                  rw [show oc + k * kJ.k + 0 = oc + k by show oc + k * 1 + 0 = _; omega] at this
                  rw [hck]; exact this
                have CI : Hid (-9223372036854775808 ≤ ck ∧ ck ≤ 9223372036854775807) := Lib.hid (by rw [hck]; exact HT.out.2.2.2.1 _ (getD_in (by rw [← HN.out.2.2.2]; exact hkn)))
                have CE := Lib.hid hck
                clear hcc' hck
                have OR : Hid (OwnR kAm w.heap.size wr s.v (ckN cs prr k)) := Lib.hid (by
                  have q := S2.out.2.q.2 i (by rw [List.length_set, LR.out.2]; exact hlt)
                  rw [List.getD_eq_getElem?_getD (l := r0.set i _), List.getElem?_set_self (by rw [LR.out.1]; exact hlt), List.getD_eq_getElem?_getD (l := (ctN cs ops i).set i _), List.getElem?_set_self (by rw [LR.out.2]; exact hlt)] at q
                  exact q.2.1)
                obtain ⟨s1, s2, s3⟩ := s
                have LK : Hid (s2 = (ckN cs prr k).length ∧ k < (ckN cs prr k).length ∧ (ckN cs prr k).length ≤ 32) := Lib.hid (by
                  have q := ckN_len cs prr k
                  have q1 := RL.out.1
                  have q2 := RL.out.2.1
                  exact ⟨own_len OR.out, by omega, by omega⟩)
                have hs2 : k < s2 := by rw [LK.out.1]; exact LK.out.2.1
                have hs2' : (k : Int) < (s2 : Int) := by omega
                obtain ⟨gr, hr0, -, hBr, hrs⟩ := OR.out.someOf (by have := LK.out.2.1; omega)
                obtain ⟨ofr, hra, hoffr⟩ : ∃ ofr, s1 = some ⟨gr, ofr, none⟩ ∧ ofr = 0 := ⟨0, hr0, rfl⟩
                clear hr0
                subst hra
                have OG := Lib.hid (And.intro hoffr (And.intro hBr hrs))
                clear hoffr hBr hrs
                obtain ⟨b', off', e', hc⟩ := (OR.out.row okAm).at k LK.out.2.1
                simp only [Option.some.injEq, Addr.mk.injEq, and_true] at e'
                obtain ⟨rfl, rfl⟩ := e'
                obtain ⟨y, hy⟩ : ∃ y, y = (ckN cs prr k).getD k kAm.z := ⟨_, rfl⟩
                rw [← hy] at hc
                have YF : Hid (y.fit) := Lib.hid (by
                  rw [hy]
                  refine ckN_all (Q := fun y => y.fit) cs prr (fun x v hx h0 h1 => ?_) RL.out.2.2.2 k (by rw [← RL.out.1]; exact hk) _ (getD_in LK.out.2.1)
                  obtain ⟨a, b, c⟩ := hx
                  exact ⟨a, by show (-9223372036854775808 : Int) ≤ v; omega, by show v ≤ (9223372036854775807 : Int); omega⟩)
                obtain ⟨yn, yv⟩ := y
                have YE := Lib.hid hy
                have a0 : wr.cell? ⟨gr, ofr + k * 2, none⟩ = some (.string yn) := hc 0 _ rfl
                have a1 : wr.cell? ⟨gr, ofr + k * 2 + 1, none⟩ = some (.int .i64 yv) := hc 1 _ rfl
                have b1 : wr.cell? ⟨bx, 1, none⟩ = some (.slice (some ⟨gr, ofr, none⟩) s2 s3) := by rw [cell_of_row _ _ _ _ _ _ S2.out.1]; rfl
                clear hc hy
                by_cases h1 : ck > 0
                · have g1 : decide (ck > 0) = true := decide_eq_true h1
                  have g1' : decide (0 < ck) = true := decide_eq_true h1
                  by_cases h2 : ck ≤ yv
                  · have g2 : decide (ck ≤ yv) = true := decide_eq_true h2
                    as_aux_lemma =>
                      obtain ⟨LL, hLL⟩ : ∃ LL, LL = ckN cs prr k := ⟨_, rfl⟩
                      have SK : Hid (ckN cs prr (k + 1) = (LL ++ [(⟨yn, ck⟩ : Am)]).set k (⟨yn, yv - ck⟩ : Am)) := Lib.hid (by
                        show ck1 cs (ckN cs prr k) k = _
                        have hl := LK.out.2.1
                        unfold ck1 cut
                        rw [← CE.out, ← YE.out, if_pos (by simp only; omega), hLL, List.set_append_left _ _ hl])
                      rw [← hLL] at S2 OR LK YE
                      clear hLL
                      have WR : IntKind.i64.wrap (yv - ck) = yv - ck := by
                        have q := YF.out.2.2
                        simp only at q
                        have q2 := CI.out
                        rw [IntKind.wrap_i64]; omega
                      go_wp2_with fail
                      go_quiet (fail)
                      obtain ⟨W2, hW2⟩ : ∃ W2, wr.drewN nq = W2 := ⟨_, rfl⟩
                      have S5 : Hid (W2.heap[bx]? = some (.cells #[.string xn, .slice (some ⟨gr, ofr, none⟩) s2 s3, .slice rc1 rc2 rc3] 52 (0, 0)) ∧ SH w bz bo ⟨op, on, ols, opr, odl, ops, ov⟩ (.slice al nl cl) (.slice (some ⟨g, off, none⟩) np cp) ols r0 (r0.set i ⟨xn, ⟨some ⟨gr, ofr, none⟩, s2, s3⟩, rb⟩) ((ctN cs ops i).set i ⟨pn, LL, pll⟩) W2) := Lib.hid (by rw [← hW2]; exact ⟨S2.out.1, S2.out.2.drewN nq⟩)
                      have a0' : W2.cell? ⟨gr, ofr + k * 2, none⟩ = some (.string yn) := by rw [← hW2]; exact a0
                      have a1' : W2.cell? ⟨gr, ofr + k * 2 + 1, none⟩ = some (.int .i64 yv) := by rw [← hW2]; exact a1
                      have b1' : W2.cell? ⟨bx, 1, none⟩ = some (.slice (some ⟨gr, ofr, none⟩) s2 s3) := by rw [← hW2]; exact b1
                      have q0' : W2.cell? ⟨bc, oc + k, none⟩ = some (.int .i64 ck) := by rw [← hW2]; exact q0
                      rw [hW2]
                      clear a0 a1 b1 q0 hW2 S2 OR nq
                      have dc : ∀ ad v, W2.cell? ad = some v → W2.drew.cell? ad = some v := fun ad v q => q
                      have d0 := dc _ _ a0'
                      have d1 := dc _ _ a1'
                      have d2 := dc _ _ b1'
                      have d3 := dc _ _ q0'
                      have TD := Lib.hid (And.intro S5.out.1 S5.out.2.drew)
                      have LB : Hid (w.heap.size ≤ W2.drew.heap.size) := Lib.hid TD.out.2.be.size
                      have LN : Hid ((LL.length + 1) * kAm.b ≤ 140737488355328) := Lib.hid (by have := LK.out.2.2; show (LL.length + 1) * 24 ≤ _; omega)
                      have OD : Hid (OwnR kAm w.heap.size W2.drew (.slice (some ⟨gr, ofr, none⟩) s2 s3) LL) := Lib.hid (TD.out.2.atS (by rw [LR.out.2]; exact hlt))
                      have mA : ∀ ob, (W2.drew.alloc ob).cell? ⟨bx, 1, none⟩ = some (.slice (some ⟨gr, ofr, none⟩) s2 s3) := fun ob => by rw [((Below.refl W2.drew.heap.size W2.drew).alloc (Nat.le_refl _) ob).cell (block_lt_of_cell d2)]; exact d2
                      have mB : ∀ ob, (W2.alloc ob).cell? ⟨bx, 1, none⟩ = some (.slice (some ⟨gr, ofr, none⟩) s2 s3) := fun ob => mA ob
                      clear dc
                      go_upto_region 11 with fail
                      go_cut [] from 39 to 99 (fun wx => ∃ (a3 : Option Addr) (n3 c3 : Nat), Hid (wx.heap[bx]? = some (.cells #[.string xn, .slice a3 n3 c3, .slice rc1 rc2 rc3] 52 (0, 0)) ∧ SH w bz bo ⟨op, on, ols, opr, odl, ops, ov⟩ (.slice al nl cl) (.slice (some ⟨g, off, none⟩) np cp) ols r0 (r0.set i ⟨xn, ⟨a3, n3, c3⟩, rb⟩) ((ctN cs ops i).set i ⟨pn, LL ++ [(⟨yn, ck⟩ : Am)], pll⟩) wx ∧ n3 = LL.length + 1))
                      case first =>
                        go_region_law (first | (refine step_rowA okAm rfl (.tmp 69) (.tmp 81) rfl (B := w.heap.size) (w0 := W2.drew) (v := .slice (some ⟨gr, ofr, none⟩) s2 s3) (es := LL) rfl OD.out LB.out ⟨yn, ck⟩ rfl rfl LN.out ?_; intro a3 n3 c3 w7 H7; have GN : Hid (w7.heap[bx]? = some (.cells #[.string xn, .slice (some ⟨gr, ofr, none⟩) s2 s3, .slice rc1 rc2 rc3] 52 (0, 0))) := Lib.hid (((grown_kept H7.out.2.1).block bx (lt_of_some TD.out.1) (fun e => own_tb OD.out kPt.t (by decide) bx _ _ e TD.out.1)).trans TD.out.1); have f2 : w7.frozen? ⟨bx, 1, none⟩ = false := frozen_of_row _ _ _ _ _ GN.out; have z2 : w7.cell? ⟨bx, 1, none⟩ = some (.slice (some ⟨gr, ofr, none⟩) s2 s3) := by rw [cell_of_row w7 _ 1 _ _ _ GN.out]; rfl))
                        all_goals
                          have S8 : Hid ((w7.setCell ⟨bx, 1, none⟩ (.slice a3 n3 c3)).heap[bx]? = some (.cells #[.string xn, .slice a3 n3 c3, .slice rc1 rc2 rc3] 52 (0, 0)) ∧ SH w bz bo ⟨op, on, ols, opr, odl, ops, ov⟩ (.slice al nl cl) (.slice (some ⟨g, off, none⟩) np cp) ols r0 (r0.set i ⟨xn, ⟨a3, n3, c3⟩, rb⟩) ((ctN cs ops i).set i ⟨pn, LL ++ [(⟨yn, ck⟩ : Am)], pll⟩) (w7.setCell ⟨bx, 1, none⟩ (.slice a3 n3 c3)) ∧ n3 = LL.length + 1) := Lib.hid (by
                            have q := TD.out.2.appS (s' := ⟨a3, n3, c3⟩) (by rw [LR.out.2]; exact hlt) H7.out.1 H7.out.2.1 H7.out.2.2.2
                            refine ⟨by rw [Go.heap_setCell_same w7 bx 1 _ _ _ GN.out]; rfl, q.other (kept_set (F := fun y => y = bx) w7 ⟨bx, 1, none⟩ _ rfl) GN.out (fun e => GX.out.1 (by injection e)) GX.out.2, H7.out.2.2.1⟩)
                          clear f2 z2
                          obtain ⟨W4, hW4⟩ : ∃ W4, w7.setCell ⟨bx, 1, none⟩ (.slice a3 n3 c3) = W4 := ⟨_, rfl⟩
                          rw [hW4] at S8
                          rw [hW4]
                          clear hW4
                          go_wp2_with fail
                          go_meet
                          case rel => exact ⟨a3, n3, c3, S8⟩
                      case rest =>
                        obtain ⟨a3, n3, c3, S8⟩ := hcut
                        clear d0 d1 d2 d3 mA mB a0' a1' b1' q0' TD OD S5 LB LN
                        have OR : Hid (OwnR kAm w.heap.size wc (.slice a3 n3 c3) (LL ++ [(⟨yn, ck⟩ : Am)])) := Lib.hid (S8.out.2.1.atS (by rw [LR.out.2]; exact hlt))
                        obtain ⟨bc', oc', eca', hcc'⟩ := (HT.out.2.2.1.below S8.out.2.1.be).at k (by rw [← HN.out.2.2.2]; exact hkn)
                        simp only [Option.some.injEq, Addr.mk.injEq, and_true] at eca'
                        obtain ⟨rfl, rfl⟩ := eca'
                        have q0 : wc.cell? ⟨bc, oc + k, none⟩ = some (.int .i64 ck) := by
                          have := hcc' 0 _ rfl
                          rw [show oc + k * kJ.k + 0 = oc + k by show oc + k * 1 + 0 = _; omega] at this
                          rw [CE.out]; exact this
                        have hn3 : k < n3 := by rw [S8.out.2.2]; have := LK.out.2.1; omega
                        have hn3' : (k : Int) < (n3 : Int) := by omega
                        obtain ⟨g3, hr0, -, hBr, hrs⟩ := OR.out.someOf (by simp)
                        obtain ⟨o3, hra, hoffr⟩ : ∃ o3, a3 = some ⟨g3, o3, none⟩ ∧ o3 = 0 := ⟨0, hr0, rfl⟩
                        clear hr0 hcc'
                        subst hra
                        have OG3 := Lib.hid (And.intro hoffr (And.intro hBr hrs))
                        clear hoffr hBr hrs
                        obtain ⟨b', off', e', hc⟩ := (OR.out.row okAm).at k (by simp; have := LK.out.2.1; omega)
                        simp only [Option.some.injEq, Addr.mk.injEq, and_true] at e'
                        obtain ⟨rfl, rfl⟩ := e'
                        have ey : (LL ++ [(⟨yn, ck⟩ : Am)]).getD k kAm.z = ⟨yn, yv⟩ := by
                          rw [YE.out, List.getD_eq_getElem?_getD, List.getD_eq_getElem?_getD, List.getElem?_append_left LK.out.2.1]
                        rw [ey] at hc
                        have EY := Lib.hid ey
                        have a1 : wc.cell? ⟨g3, o3 + k * 2 + 1, none⟩ = some (.int .i64 yv) := hc 1 _ rfl
                        have b1 : wc.cell? ⟨bx, 1, none⟩ = some (.slice (some ⟨g3, o3, none⟩) n3 c3) := by rw [cell_of_row _ _ _ _ _ _ S8.out.1]; rfl
                        have f1 : wc.frozen? ⟨g3, o3 + k * 2 + 1, none⟩ = false := by
                          have q := OR.out
                          rw [OG3.out.1] at q
                          obtain ⟨cur, -, -, hg3, -⟩ := own_parts q
                          exact frozen_of_row _ _ _ _ _ hg3
                        have d1 : wc.drew.cell? ⟨g3, o3 + k * 2 + 1, none⟩ = some (.int .i64 yv) := a1
                        have d2 : wc.drew.cell? ⟨bx, 1, none⟩ = some (.slice (some ⟨g3, o3, none⟩) n3 c3) := b1
                        have d3 : wc.drew.frozen? ⟨g3, o3 + k * 2 + 1, none⟩ = false := f1
                        have d4 : wc.drew.cell? ⟨bc, oc + k, none⟩ = some (.int .i64 ck) := q0
                        clear hc ey
                        go_upto_region 12 with fail
                        go_region
                        have S9 : Hid ((wc.setCell ⟨g3, o3 + k * 2 + 1, none⟩ (.int .i64 (yv - ck))).drew.heap[bx]? = some (.cells #[.string xn, .slice (some ⟨g3, o3, none⟩) n3 c3, .slice rc1 rc2 rc3] 52 (0, 0)) ∧ SH w bz bo ⟨op, on, ols, opr, odl, ops, ov⟩ (.slice al nl cl) (.slice (some ⟨g, off, none⟩) np cp) ols r0 (r0.set i ⟨xn, ⟨some ⟨g3, o3, none⟩, n3, c3⟩, rb⟩) ((ctN cs ops i).set i ⟨pn, ckN cs prr (k + 1), pll⟩) (wc.setCell ⟨g3, o3 + k * 2 + 1, none⟩ (.int .i64 (yv - ck))).drew) := Lib.hid (by
                          have z := OG3.out.1
                          have q := OR.out
                          have tb := own_tb OR.out kPt.t (by decide) bx
                          rw [z] at q
                          have q2 : OwnR kAm w.heap.size (wc.setCell ⟨g3, k * 2 + 1, none⟩ (.int .i64 (yv - ck))) (.slice (some ⟨g3, 0, none⟩) n3 c3) _ := q.set okAm k 1 (by simp; have := LK.out.2.1; omega) (by decide) ⟨yn, yv - ck⟩ (.int .i64 (yv - ck)) (by rw [EY.out]; rfl)
                          have t := S8.out.2.1.turnS (g := g3) (W' := wc.setCell ⟨g3, o3 + k * 2 + 1, none⟩ (.int .i64 (yv - ck))) (l := ckN cs prr (k + 1)) (by rw [LR.out.2]; exact hlt) rfl (grown_set1 wc g3 _ _) (by rw [SK.out]; show OwnR kAm w.heap.size _ (.slice (some ⟨g3, o3, none⟩) n3 c3) _; rw [z, Nat.zero_add]; exact q2)
                          refine ⟨?_, t.drew⟩
                          show (wc.setCell ⟨g3, o3 + k * 2 + 1, none⟩ (.int .i64 (yv - ck))).heap[bx]? = _
                          rw [(kept_set (F := fun y => y = g3) wc ⟨g3, o3 + k * 2 + 1, none⟩ (.int .i64 (yv - ck)) rfl).block bx (lt_of_some S8.out.1) (fun e => tb _ _ (by rw [e]; rfl) S8.out.1)]
                          exact S8.out.1)
                        obtain ⟨W5, hW5⟩ : ∃ W5, (wc.setCell ⟨g3, o3 + k * 2 + 1, none⟩ (.int .i64 (yv - ck))).drew = W5 := ⟨_, rfl⟩
                        rw [hW5] at S9
                        rw [hW5]
                        clear hW5 d1 d2 d3 d4 f1 a1 b1 q0
                        go_wp2_with fail
                        go_roundg (ra2 - (k + 1))
                        case measure => have := GK.out; omega
                        case rel => exact ⟨k + 1, ⟨some ⟨g3, o3, none⟩, n3, c3⟩, by omega, by omega, rfl, by go_num, S9⟩
                  · have g2 : decide (ck ≤ yv) = false := decide_eq_false h2
                    as_aux_lemma =>
                      have SK : Hid (ckN cs prr (k + 1) = ckN cs prr k) := Lib.hid (by
                        show ck1 cs (ckN cs prr k) k = _
                        unfold ck1
                        rw [← CE.out, ← YE.out, if_neg (by simp only; omega)])
                      clear h1
                      go_wp2_with fail
                      go_quiet (fail)
                      go_wp2_with fail
                      go_roundg (ra2 - (k + 1))
                      case measure => have := GK.out; omega
                      case rel => exact ⟨k + 1, ⟨some ⟨gr, ofr, none⟩, s2, s3⟩, by omega, by omega, rfl, by go_num, Lib.hid ⟨S2.out.1, by rw [SK.out]; exact S2.out.2.drewN nq⟩⟩
                · have g1 : decide (ck > 0) = false := decide_eq_false h1
                  have g1' : decide (0 < ck) = false := decide_eq_false h1
                  as_aux_lemma =>
                    have SK : Hid (ckN cs prr (k + 1) = ckN cs prr k) := Lib.hid (by
                      show ck1 cs (ckN cs prr k) k = _
                      unfold ck1
                      rw [← CE.out, ← YE.out, if_neg (by simp only; omega)])
                    clear h1
                    go_wp2_with fail
                    go_quiet (fail)
                    go_wp2_with fail
                    go_roundg (ra2 - (k + 1))
                    case measure => have := GK.out; omega
                    case rel => exact ⟨k + 1, ⟨some ⟨gr, ofr, none⟩, s2, s3⟩, by omega, by omega, rfl, by go_num, Lib.hid ⟨S2.out.1, by rw [SK.out]; exact S2.out.2.drewN nq⟩⟩
            · as_aux_lemma =>
                have hkm' : (k : Int) < (ra2 : Int) := by omega
                have hkn' : ¬ (k : Int) < (nc : Int) := by omega
                have gm : decide ((k : Int) < (ra2 : Int)) = true := decide_eq_true hkm'
                have gn : decide ((k : Int) < (nc : Int)) = false := decide_eq_false hkn'
                have gm2 : decide (k < ra2) = true := decide_eq_true hkm
                have gn2 : decide (k < nc) = false := decide_eq_false hkn
                have KE : Hid (min prr.length cs.length = k) := Lib.hid (by have q1 := RL.out.1; have q2 := HN.out.2.2.2; omega)
                obtain ⟨s1, s2, s3⟩ := s
                have k5 : wr.cell? ⟨bo, 5, none⟩ = some (.slice (some ⟨g, off, none⟩) np cp) := by rw [cell_of_row wr _ 5 _ _ _ S2.out.2.o]; rfl
                have b0 : wr.cell? ⟨bx, 0, none⟩ = some (.string xn) := by rw [cell_of_row _ _ _ _ _ _ S2.out.1]; rfl
                have b1 : wr.cell? ⟨bx, 1, none⟩ = some (.slice s1 s2 s3) := by rw [cell_of_row _ _ _ _ _ _ S2.out.1]; rfl
                have b2 : wr.cell? ⟨bx, 2, none⟩ = some (.slice rc1 rc2 rc3) := by rw [cell_of_row _ _ _ _ _ _ S2.out.1]; rfl
                have H0 : Hid (OwnR kPt w.heap.size wr (.slice (some ⟨g, 0, none⟩) np cp) r0) := Lib.hid (by have q := S2.out.2.p; rw [OF.out] at q; exact q)
                have HI : Hid (i < r0.length) := Lib.hid (by rw [LR.out.1]; exact hlt)
                have HC : Hid (#[Value.string xn, .slice s1 s2 s3, .slice rc1 rc2 rc3] = (kPt.c ⟨xn, ⟨s1, s2, s3⟩, rb⟩).toArray) := Lib.hid (by show _ = #[Value.string xn, .slice s1 s2 s3, rb.v]; rw [← HRB.out])
                have HJ : Hid (off + i * 3 = i * kPt.k) := Lib.hid (by rw [OF.out, Nat.zero_add]; rfl)
                go_wp2_with (refine store_el okPt rfl (.tmp 104) (.tmp 103) rfl (j := off + i * 3) H0.out HI.out ⟨xn, ⟨s1, s2, s3⟩, rb⟩ HC.out HJ.out rfl rfl ?_; intro W6 H6)
                have S6 : Hid (SH w bz bo ⟨op, on, ols, opr, odl, ops, ov⟩ (.slice al nl cl) (.slice (some ⟨g, off, none⟩) np cp) ols (r0.set i ⟨xn, ⟨s1, s2, s3⟩, rb⟩) (r0.set i ⟨xn, ⟨s1, s2, s3⟩, rb⟩) (ctN cs ops (i + 1)) W6) := Lib.hid (by
                  have o6 := H6.out.1
                  rw [← OF.out] at o6
                  have q := S2.out.2.parts o6 H6.out.2
                  have e : ctN cs ops (i + 1) = (ctN cs ops i).set i ⟨pn, ckN cs prr k, pll⟩ := by
                    show (ctN cs ops i).set i (ctP cs ((ctN cs ops i).getD i zP)) = _
                    rw [← HX.out.2]
                    show (ctN cs ops i).set i ⟨pn, ckN cs prr (min prr.length cs.length), pll⟩ = _
                    rw [KE.out]
                  rw [e]
                  exact q)
                go_roundg (np - (i + 1))
                case measure => have := GI.out; omega
                case rel => exact ⟨i + 1, r0.set i ⟨xn, ⟨s1, s2, s3⟩, rb⟩, by omega, rfl, by go_num, S6⟩
          · as_aux_lemma =>
              have hkm' : ¬ (k : Int) < (ra2 : Int) := by omega
              have gm : decide ((k : Int) < (ra2 : Int)) = false := decide_eq_false hkm'
              have gm2 : decide (k < ra2) = false := decide_eq_false hkm
              have KE : Hid (min prr.length cs.length = k) := Lib.hid (by have q1 := RL.out.1; have q2 := HN.out.2.2.2; omega)
              obtain ⟨s1, s2, s3⟩ := s
              have k5 : wr.cell? ⟨bo, 5, none⟩ = some (.slice (some ⟨g, off, none⟩) np cp) := by rw [cell_of_row wr _ 5 _ _ _ S2.out.2.o]; rfl
              have b0 : wr.cell? ⟨bx, 0, none⟩ = some (.string xn) := by rw [cell_of_row _ _ _ _ _ _ S2.out.1]; rfl
              have b1 : wr.cell? ⟨bx, 1, none⟩ = some (.slice s1 s2 s3) := by rw [cell_of_row _ _ _ _ _ _ S2.out.1]; rfl
              have b2 : wr.cell? ⟨bx, 2, none⟩ = some (.slice rc1 rc2 rc3) := by rw [cell_of_row _ _ _ _ _ _ S2.out.1]; rfl
              have H0 : Hid (OwnR kPt w.heap.size wr (.slice (some ⟨g, 0, none⟩) np cp) r0) := Lib.hid (by have q := S2.out.2.p; rw [OF.out] at q; exact q)
              have HI : Hid (i < r0.length) := Lib.hid (by rw [LR.out.1]; exact hlt)
              have HC : Hid (#[Value.string xn, .slice s1 s2 s3, .slice rc1 rc2 rc3] = (kPt.c ⟨xn, ⟨s1, s2, s3⟩, rb⟩).toArray) := Lib.hid (by show _ = #[Value.string xn, .slice s1 s2 s3, rb.v]; rw [← HRB.out])
              have HJ : Hid (off + i * 3 = i * kPt.k) := Lib.hid (by rw [OF.out, Nat.zero_add]; rfl)
              go_wp2_with (refine store_el okPt rfl (.tmp 104) (.tmp 103) rfl (j := off + i * 3) H0.out HI.out ⟨xn, ⟨s1, s2, s3⟩, rb⟩ HC.out HJ.out rfl rfl ?_; intro W6 H6)
              have S6 : Hid (SH w bz bo ⟨op, on, ols, opr, odl, ops, ov⟩ (.slice al nl cl) (.slice (some ⟨g, off, none⟩) np cp) ols (r0.set i ⟨xn, ⟨s1, s2, s3⟩, rb⟩) (r0.set i ⟨xn, ⟨s1, s2, s3⟩, rb⟩) (ctN cs ops (i + 1)) W6) := Lib.hid (by
                have o6 := H6.out.1
                rw [← OF.out] at o6
                have q := S2.out.2.parts o6 H6.out.2
                have e : ctN cs ops (i + 1) = (ctN cs ops i).set i ⟨pn, ckN cs prr k, pll⟩ := by
                  show (ctN cs ops i).set i (ctP cs ((ctN cs ops i).getD i zP)) = _
                  rw [← HX.out.2]
                  show (ctN cs ops i).set i ⟨pn, ckN cs prr (min prr.length cs.length), pll⟩ = _
                  rw [KE.out]
                rw [e]
                exact q)
              go_roundg (np - (i + 1))
              case measure => have := GI.out; omega
              case rel => exact ⟨i + 1, r0.set i ⟨xn, ⟨s1, s2, s3⟩, rb⟩, by omega, rfl, by go_num, S6⟩
    · as_aux_lemma =>
        have hge : ¬ (i : Int) < (np : Int) := by omega
        obtain ⟨PS, hPS⟩ : ∃ PS, PS = ctN cs ops ops.length := ⟨_, rfl⟩
        have T1 : Hid (SH w bz bo ⟨op, on, ols, opr, odl, ops, ov⟩ (.slice al nl cl) (.slice ap np cp) ols r0 r0 PS wr) := Lib.hid (by
          have q := S1.out
          rw [show i = ops.length by rw [← HN.out.2.1]; omega, ← hPS] at q
          exact q)
        have PL : Hid (PS.length = np ∧ PS = ctN cs ops ops.length) := Lib.hid ⟨by rw [hPS, ctN_len]; exact HN.out.2.1.symm, hPS⟩
        obtain ⟨nh, hnh⟩ : ∃ nh, nh = nt / 2 := ⟨_, rfl⟩
        have NH := Lib.hid hnh
        clear S1 hPS hnh
        go_wp2_with fail
        clear k5 hge hlt
        go_loopg [12, 13, 14, 15, 16, 17, 18, 19, 20, 21] nh (fun gg s12 _ _ _ _ _ _ _ _ _ wr => ∃ (j i : Nat) (rs : List Pr), j ≤ nh ∧ gg = nh - j ∧ s12 = .int .i64 i ∧ Hid (i = 2 * j ∧ SH w bz bo ⟨op, on, ols, opr, odl, ops, ov⟩ (.slice al nl cl) (.slice ap np cp) (tuN ts (ols, PS) j).1 rs rs (tuN ts (ols, PS) j).2 wr))
        case atStart => exact ⟨0, 0, r0, Nat.zero_le _, rfl, rfl, Lib.hid ⟨rfl, T1.out⟩⟩
        case round =>
          clear T1
          obtain ⟨j, i, rs, hj, hg, rfl, S3⟩ := hrel
          have GJ := Lib.hid hg
          clear hg
          have il : i ≤ nt := by have := S3.out.1; have := NH.out; omega
          by_cases hlt : i + 1 < nt
          · have hlt' : (i : Int) + 1 < (nt : Int) := by omega
            have JL : Hid (j < nh) := Lib.hid (by have := S3.out.1; have := NH.out; omega)
            have TR := HT.out.1.below S3.out.2.be
            obtain ⟨bt, ot, eta, ht0⟩ := TR.at i (by rw [← HN.out.2.2.1]; omega)
            subst eta
            obtain ⟨bt', ot', et', ht1⟩ := TR.at (i + 1) (by rw [← HN.out.2.2.1]; omega)
            simp only [Option.some.injEq, Addr.mk.injEq, and_true] at et'
            obtain ⟨rfl, rfl⟩ := et'
            obtain ⟨x, hx⟩ : ∃ x, x = ts.getD i 0 := ⟨_, rfl⟩
            obtain ⟨y, hy⟩ : ∃ y, y = ts.getD (i + 1) 0 := ⟨_, rfl⟩
            have q0 : wr.cell? ⟨bt, ot + i, none⟩ = some (.int .i64 x) := by
              have := ht0 0 _ rfl
              rw [show ot + i * kI.k + 0 = ot + i by show ot + i * 1 + 0 = _; omega] at this
              rw [hx]; exact this
            have q1 : wr.cell? ⟨bt, ot + (i + 1), none⟩ = some (.int .i64 y) := by
              have := ht1 0 _ rfl
              rw [show ot + (i + 1) * kI.k + 0 = ot + (i + 1) by show ot + (i + 1) * 1 + 0 = _; omega] at this
              rw [hy]; exact this
            obtain ⟨L, hL⟩ : ∃ L, L = (tuN ts (ols, PS) j).1 := ⟨_, rfl⟩
            obtain ⟨Q, hQ⟩ : ∃ Q, Q = (tuN ts (ols, PS) j).2 := ⟨_, rfl⟩
            have XY : Hid (tuN ts (ols, PS) j = (L, Q) ∧ tuN ts (ols, PS) (j + 1) = tu1 x y (L, Q) ∧ L.length = nl ∧ Q.length = np) := Lib.hid (by
              have q := tuN_len ts (ols, PS) j
              have e : tuN ts (ols, PS) j = (L, Q) := by rw [hL, hQ]
              refine ⟨e, ?_, by rw [hL, q.1]; exact HN.out.1.symm, by rw [hQ, q.2]; exact PL.out.1⟩
              show tu1 (ts.getD (2 * j) 0) (ts.getD (2 * j + 1) 0) (tuN ts (ols, PS) j) = _
              rw [← S3.out.1, ← hx, ← hy, e])
            have S4 : Hid (SH w bz bo ⟨op, on, ols, opr, odl, ops, ov⟩ (.slice al nl cl) (.slice ap np cp) L rs rs Q wr) := Lib.hid (by rw [hL, hQ]; exact S3.out.2)
            have I2 := Lib.hid S3.out.1
            clear TR ht0 ht1 hx hy hL hQ S3
            by_cases hx0 : x < 0
            · have g0 : decide (x < 0) = true := decide_eq_true hx0
              as_aux_lemma =>
                have SK : Hid (tuN ts (ols, PS) (j + 1) = (L, Q)) := Lib.hid (by rw [XY.out.2.1]; unfold tu1; rw [if_pos (by omega)])
                go_wp2_with fail
                go_roundg (nh - (j + 1))
                case measure => have := GJ.out; have := JL.out; omega
                case rel => exact ⟨j + 1, i + 2, rs, by have := JL.out; omega, rfl, by go_num, Lib.hid ⟨by have := I2.out; omega, by rw [SK.out]; exact S4.out⟩⟩
            · have g0 : decide (x < 0) = false := decide_eq_false hx0
              by_cases hy0 : y < 0
              · have g1 : decide (y < 0) = true := decide_eq_true hy0
                as_aux_lemma =>
                  have SK : Hid (tuN ts (ols, PS) (j + 1) = (L, Q)) := Lib.hid (by rw [XY.out.2.1]; unfold tu1; rw [if_pos (by omega)])
                  go_wp2_with fail
                  go_roundg (nh - (j + 1))
                  case measure => have := GJ.out; have := JL.out; omega
                  case rel => exact ⟨j + 1, i + 2, rs, by have := JL.out; omega, rfl, by go_num, Lib.hid ⟨by have := I2.out; omega, by rw [SK.out]; exact S4.out⟩⟩
              · have g1 : decide (y < 0) = false := decide_eq_false hy0
                as_aux_lemma =>
                  obtain ⟨a, ha⟩ : ∃ a : Nat, x = (a : Int) := ⟨x.toNat, by omega⟩
                  obtain ⟨b, hb⟩ : ∃ b : Nat, y = (b : Int) := ⟨y.toNat, by omega⟩
                  subst ha hb
                  have TU : Hid (tuN ts (ols, PS) (j + 1) = (tn kLb.z a b L, tkN a b (tn zP a b Q) np)) := Lib.hid (by
                    rw [XY.out.2.1]
                    unfold tu1
                    rw [if_neg (by omega)]
                    show (tn kLb.z (a : Int).toNat (b : Int).toNat L, tkN (a : Int).toNat (b : Int).toNat (tn zP (a : Int).toNat (b : Int).toNat Q) Q.length) = _
                    rw [Int.toNat_natCast, Int.toNat_natCast, XY.out.2.2.2])
                  clear hx0 hy0
                  have k2 : wr.cell? ⟨bo, 2, none⟩ = some (.slice al nl cl) := by rw [cell_of_row wr _ 2 _ _ _ S4.out.o]; rfl
                  go_upto_region 20 with fail
                  go_cut [138] from 105 to 257 (fun sb wx => sb = .bool (decide (a < nl ∧ b < nl)) ∧ wr = wx)
                  case first =>
                    by_cases ean : a < nl
                    · have eae : ((a : Int) < (nl : Int)) := by omega
                      have eab : decide ((a : Int) < (nl : Int)) = true := decide_eq_true eae
                      have eac : decide (a < nl) = true := decide_eq_true ean
                      by_cases ebn : b < nl
                      · have ebe : ((b : Int) < (nl : Int)) := by omega
                        have ebb : decide ((b : Int) < (nl : Int)) = true := decide_eq_true ebe
                        have ebc : decide (b < nl) = true := decide_eq_true ebn
                        go_wp2_with fail
                        go_meet
                        case rel => exact ⟨by rw [decide_eq_true (show a < nl ∧ b < nl from ⟨ean, ebn⟩)], rfl⟩
                      · have ebe : ¬ ((b : Int) < (nl : Int)) := by omega
                        have ebb : decide ((b : Int) < (nl : Int)) = false := decide_eq_false ebe
                        have ebc : decide (b < nl) = false := decide_eq_false ebn
                        go_wp2_with fail
                        go_meet
                        case rel => exact ⟨by rw [decide_eq_false (show ¬ (a < nl ∧ b < nl) from fun z => ebn z.2)], rfl⟩
                    · have eae : ¬ ((a : Int) < (nl : Int)) := by omega
                      have eab : decide ((a : Int) < (nl : Int)) = false := decide_eq_false eae
                      have eac : decide (a < nl) = false := decide_eq_false ean
                      go_wp2_with fail
                      go_meet
                      case rel => exact ⟨by rw [decide_eq_false (show ¬ (a < nl ∧ b < nl) from fun z => ean z.1)], rfl⟩
                  case rest =>
                    obtain ⟨rfl, rfl⟩ := hcut
                    clear q0 q1 g0 g1
                    go_upto_if 138 with fail
                    go_cut [15] from 105 to 257 (fun _ wx => Hid (SH w bz bo ⟨op, on, ols, opr, odl, ops, ov⟩ (.slice al nl cl) (.slice ap np cp) (tn kLb.z a b L) rs rs Q wx))
                    case first =>
                      by_cases hab : a < nl ∧ b < nl
                      · have gab : decide (a < nl ∧ b < nl) = true := decide_eq_true hab
                        obtain ⟨h1, h2⟩ := hab
                        as_aux_lemma =>
                          have h1' : (a : Int) < (nl : Int) := by omega
                          have h2' : (b : Int) < (nl : Int) := by omega
                          have HL : Hid (a < L.length ∧ b < L.length) := Lib.hid (by rw [XY.out.2.2.1]; exact ⟨h1, h2⟩)
                          obtain ⟨gl, he0, -, hBg, hgs⟩ := S4.out.l.someOf (by have := HL.out.1; omega)
                          obtain ⟨ofl, he, hof⟩ : ∃ ofl, al = some ⟨gl, ofl, none⟩ ∧ ofl = 0 := ⟨0, he0, rfl⟩
                          subst he
                          have OL := Lib.hid (And.intro hof (And.intro hBg hgs))
                          clear he0 hof hBg hgs
                          obtain ⟨ya, hya⟩ : ∃ y, y = L.getD a kLb.z := ⟨_, rfl⟩
                          obtain ⟨yb, hyb⟩ : ∃ y, y = L.getD b kLb.z := ⟨_, rfl⟩
                          obtain ⟨b', off', e', hca⟩ := (S4.out.l.row okLb).at a HL.out.1
                          simp only [Option.some.injEq, Addr.mk.injEq, and_true] at e'
                          obtain ⟨rfl, rfl⟩ := e'
                          obtain ⟨b', off', e', hcb⟩ := (S4.out.l.row okLb).at b HL.out.2
                          simp only [Option.some.injEq, Addr.mk.injEq, and_true] at e'
                          obtain ⟨rfl, rfl⟩ := e'
                          rw [← hya] at hca
                          rw [← hyb] at hcb
                          have HY := Lib.hid (And.intro hya hyb)
                          clear hya hyb
                          obtain ⟨ya1, ya2⟩ := ya
                          obtain ⟨yb1, yb2⟩ := yb
                          have pa0 : wr.cell? ⟨gl, ofl + a * 2, none⟩ = some (.string ya1) := hca 0 _ rfl
                          have pa1 : wr.cell? ⟨gl, ofl + a * 2 + 1, none⟩ = some (.string ya2) := hca 1 _ rfl
                          obtain ⟨X, hX⟩ : ∃ X, X = wr.alloc (.cells #[.string ya1, .string ya2] 44) := ⟨_, rfl⟩
                          obtain ⟨bx, hbx⟩ : ∃ bx, bx = wr.heap.size := ⟨_, rfl⟩
                          have AX : Hid (Below wr.heap.size wr X ∧ X.heap[bx]? = some (.cells #[.string ya1, .string ya2] 44 (0, 0)) ∧ gl ≠ bx) := Lib.hid (by
                            have := OL.out.2.2
                            rw [hX, hbx]; exact ⟨(Below.refl _ wr).alloc (Nat.le_refl _) _, heap_alloc_new _ _, by omega⟩)
                          have S5 := Lib.hid (S4.out.below AX.out.1)
                          have pb0 : X.cell? ⟨gl, ofl + b * 2, none⟩ = some (.string yb1) := by rw [AX.out.1.cell (p := ⟨gl, ofl + b * 2, none⟩) OL.out.2.2]; exact hcb 0 _ rfl
                          have pb1 : X.cell? ⟨gl, ofl + b * 2 + 1, none⟩ = some (.string yb2) := by rw [AX.out.1.cell (p := ⟨gl, ofl + b * 2 + 1, none⟩) OL.out.2.2]; exact hcb 1 _ rfl
                          have k3 : X.cell? ⟨bo, 2, none⟩ = some (.slice (some ⟨gl, ofl, none⟩) nl cl) := by rw [cell_of_row X _ 2 _ _ _ S5.out.o]; rfl
                          have dc : ∀ ad v, X.cell? ad = some v → X.drew.cell? ad = some v := fun ad v q => q
                          have db0 := dc _ _ pb0
                          have db1 := dc _ _ pb1
                          have dk3 := dc _ _ k3
                          have H0 : Hid (OwnR kLb w.heap.size X.drew (.slice (some ⟨gl, 0, none⟩) nl cl) L) := Lib.hid (by have q := S5.out.drew.l; rw [OL.out.1] at q; exact q)
                          have HJ : Hid (ofl + a * 2 = a * kLb.k ∧ ofl + b * 2 = b * kLb.k) := Lib.hid (by rw [OL.out.1, Nat.zero_add, Nat.zero_add]; exact ⟨rfl, rfl⟩)
                          have hX' := hX.symm
                          have hbx' := hbx.symm
                          clear hX hbx hca hcb dc
                          go_upto_region 22 with fail
                          have ta0 : X.drew.cell? ⟨gl, ofl + a * 2, none⟩ = some (.string ya1) := by show X.cell? _ = _; rw [AX.out.1.cell (p := ⟨gl, ofl + a * 2, none⟩) OL.out.2.2]; exact pa0
                          have ta0' : X.cell? ⟨gl, ofl + a * 2, none⟩ = some (.string ya1) := ta0
                          have ta1 : ∀ u, (X.setCell ⟨gl, ofl + a * 2, none⟩ u).cell? ⟨gl, ofl + a * 2 + 1, none⟩ = some (.string ya2) := fun u => by
                            have q : (X.setCell ⟨gl, ofl + a * 2, none⟩ u).cell? ⟨gl, ofl + a * 2 + 1, none⟩ = X.cell? ⟨gl, ofl + a * 2 + 1, none⟩ := World.cell?_setCell_other X _ _ _ (by intro e; injection e with e1 e2; omega)
                            rw [q]; rw [AX.out.1.cell (p := ⟨gl, ofl + a * 2 + 1, none⟩) OL.out.2.2]; exact pa1
                          have FZ : Hid (∀ j, X.drew.frozen? ⟨gl, j, none⟩ = false) := Lib.hid (fun j => by obtain ⟨cur, -, -, h, -⟩ := own_parts H0.out; exact frozen_of_row _ _ _ _ _ h)
                          have tf0 : X.drew.frozen? ⟨gl, ofl + a * 2, none⟩ = false := FZ.out _
                          have tf0' : X.frozen? ⟨gl, ofl + a * 2, none⟩ = false := tf0
                          have tf1 : ∀ u, (X.setCell ⟨gl, ofl + a * 2, none⟩ u).frozen? ⟨gl, ofl + a * 2 + 1, none⟩ = false := fun u => by rw [World.frozen?_setCell]; exact FZ.out _
                          go_region
                          obtain ⟨W6, hW6⟩ : ∃ W6, ((X.setCell ⟨gl, ofl + a * 2, none⟩ (.string yb1)).setCell ⟨gl, ofl + a * 2 + 1, none⟩ (.string yb2)).drew = W6 := ⟨_, rfl⟩
                          have H6 : Hid (OwnR kLb w.heap.size W6 (.slice (some ⟨gl, 0, none⟩) nl cl) (L.set a (yb1, yb2)) ∧ X.grownBy W6 (some gl)) := Lib.hid (by
                            have q0 : OwnR kLb w.heap.size X (.slice (some ⟨gl, 0, none⟩) nl cl) L := H0.out
                            obtain ⟨q1, q2, -⟩ := own_put okLb q0 a HL.out.1 (yb1, yb2)
                            rw [← hW6, HJ.out.1]
                            exact ⟨q1, grown_drew q2⟩)
                          rw [hW6]
                          clear hW6 ta0 ta0' ta1 tf0 tf0' tf1
                          have R6 : Hid (W6.heap[bx]? = some (.cells #[.string ya1, .string ya2] 44 (0, 0)) ∧ SH w bz bo ⟨op, on, ols, opr, odl, ops, ov⟩ (.slice (some ⟨gl, ofl, none⟩) nl cl) (.slice ap np cp) (L.set a (yb1, yb2)) rs rs Q W6) := Lib.hid (by
                            have o6 := H6.out.1
                            rw [← OL.out.1] at o6
                            refine ⟨?_, S5.out.labels o6 H6.out.2⟩
                            rw [H6.out.2.block bx (lt_of_some AX.out.2.1) (fun e => AX.out.2.2 (by injection e with e; exact e.symm))]
                            exact AX.out.2.1)
                          have x0 : W6.cell? ⟨bx, 0, none⟩ = some (.string ya1) := by rw [cell_of_row _ _ _ _ _ _ R6.out.1]; rfl
                          have x1 : W6.cell? ⟨bx, 1, none⟩ = some (.string ya2) := by rw [cell_of_row _ _ _ _ _ _ R6.out.1]; rfl
                          have k6 : W6.cell? ⟨bo, 2, none⟩ = some (.slice (some ⟨gl, ofl, none⟩) nl cl) := by rw [cell_of_row W6 _ 2 _ _ _ R6.out.2.o]; rfl
                          have HB : Hid (b < (L.set a (yb1, yb2)).length) := Lib.hid (by rw [List.length_set]; exact HL.out.2)
                          clear pa0 pa1 pb0 pb1 k3 db0 db1 dk3 k2
                          go_wp2_with (refine store_el okLb rfl (.tmp 157) (.tmp 156) rfl (j := ofl + b * 2) H6.out.1 HB.out (ya1, ya2) rfl HJ.out.2 rfl rfl ?_; intro W7 H7)
                          go_meet
                          case rel =>
                            refine Lib.hid ?_
                            have o7 := H7.out.1
                            rw [← OL.out.1] at o7
                            have q := R6.out.2.labels o7 H7.out.2
                            unfold tn swl
                            rw [if_pos (by rw [XY.out.2.2.1]; exact ⟨h1, h2⟩), ← HY.out.1, ← HY.out.2]
                            exact q
                      · have gab : decide (a < nl ∧ b < nl) = false := decide_eq_false hab
                        go_wp2_with fail
                        go_meet
                        case rel => exact Lib.hid (by unfold tn; rw [if_neg (by rw [XY.out.2.2.1]; exact hab)]; exact S4.out)
                    case rest =>
                      as_aux_lemma =>
                        have S6 : Hid (SH w bz bo ⟨op, on, ols, opr, odl, ops, ov⟩ (.slice al nl cl) (.slice ap np cp) (tn kLb.z a b L) rs rs Q wc) := hcut
                        obtain ⟨L2, hL2⟩ : ∃ L2, L2 = tn kLb.z a b L := ⟨_, rfl⟩
                        obtain ⟨W5, hW5⟩ : ∃ W5, W5 = wc := ⟨_, rfl⟩
                        rw [← hL2, ← hW5] at S6
                        rw [← hL2] at TU
                        rw [← hW5]
                        have RSL : Hid (rs.length = np) := Lib.hid (by rw [S6.out.q.1]; exact XY.out.2.2.2)
                        have k5 : W5.cell? ⟨bo, 5, none⟩ = some (.slice ap np cp) := by rw [cell_of_row W5 _ 5 _ _ _ S6.out.o]; rfl
                        clear hL2 hW5 hcut k2 S4
                        go_upto_region 24 with fail
                        go_cut [169] from 105 to 257 (fun sb wx => sb = .bool (decide (a < np ∧ b < np)) ∧ W5 = wx)
                        case first =>
                          by_cases ean : a < np
                          · have eae : ((a : Int) < (np : Int)) := by omega
                            have eab : decide ((a : Int) < (np : Int)) = true := decide_eq_true eae
                            have eac : decide (a < np) = true := decide_eq_true ean
                            by_cases ebn : b < np
                            · have ebe : ((b : Int) < (np : Int)) := by omega
                              have ebb : decide ((b : Int) < (np : Int)) = true := decide_eq_true ebe
                              have ebc : decide (b < np) = true := decide_eq_true ebn
                              go_wp2_with fail
                              go_meet
                              case rel => exact ⟨by rw [decide_eq_true (show a < np ∧ b < np from ⟨ean, ebn⟩)], rfl⟩
                            · have ebe : ¬ ((b : Int) < (np : Int)) := by omega
                              have ebb : decide ((b : Int) < (np : Int)) = false := decide_eq_false ebe
                              have ebc : decide (b < np) = false := decide_eq_false ebn
                              go_wp2_with fail
                              go_meet
                              case rel => exact ⟨by rw [decide_eq_false (show ¬ (a < np ∧ b < np) from fun z => ebn z.2)], rfl⟩
                          · have eae : ¬ ((a : Int) < (np : Int)) := by omega
                            have eab : decide ((a : Int) < (np : Int)) = false := decide_eq_false eae
                            have eac : decide (a < np) = false := decide_eq_false ean
                            go_wp2_with fail
                            go_meet
                            case rel => exact ⟨by rw [decide_eq_false (show ¬ (a < np ∧ b < np) from fun z => ean z.1)], rfl⟩
                        case rest =>
                          obtain ⟨rfl, rfl⟩ := hcut
                          go_upto_if 169 with fail
                          go_cut [16] from 105 to 257 (fun _ wx => Hid (SH w bz bo ⟨op, on, ols, opr, odl, ops, ov⟩ (.slice al nl cl) (.slice ap np cp) L2 (tn kPt.z a b rs) (tn kPt.z a b rs) (tn zP a b Q) wx))
                          case first =>
                            by_cases hab : a < np ∧ b < np
                            · have gab : decide (a < np ∧ b < np) = true := decide_eq_true hab
                              obtain ⟨h1, h2⟩ := hab
                              as_aux_lemma =>
                                have h1' : (a : Int) < (np : Int) := by omega
                                have h2' : (b : Int) < (np : Int) := by omega
                                have HL : Hid (a < rs.length ∧ b < rs.length) := Lib.hid (by rw [RSL.out]; exact ⟨h1, h2⟩)
                                obtain ⟨gl, he0, -, hBg, hgs⟩ := S6.out.p.someOf (by have := HL.out.1; omega)
                                obtain ⟨ofl, he, hof⟩ : ∃ ofl, ap = some ⟨gl, ofl, none⟩ ∧ ofl = 0 := ⟨0, he0, rfl⟩
                                subst he
                                have OL := Lib.hid (And.intro hof (And.intro hBg hgs))
                                clear he0 hof hBg hgs
                                obtain ⟨ya, hya⟩ : ∃ y, y = rs.getD a kPt.z := ⟨_, rfl⟩
                                obtain ⟨yb, hyb⟩ : ∃ y, y = rs.getD b kPt.z := ⟨_, rfl⟩
                                obtain ⟨b', off', e', hca⟩ := (S6.out.p.row okPt).at a HL.out.1
                                simp only [Option.some.injEq, Addr.mk.injEq, and_true] at e'
                                obtain ⟨rfl, rfl⟩ := e'
                                obtain ⟨b', off', e', hcb⟩ := (S6.out.p.row okPt).at b HL.out.2
                                simp only [Option.some.injEq, Addr.mk.injEq, and_true] at e'
                                obtain ⟨rfl, rfl⟩ := e'
                                rw [← hya] at hca
                                rw [← hyb] at hcb
                                have HY := Lib.hid (And.intro hya hyb)
                                clear hya hyb
                                obtain ⟨ya1, ⟨ya2, ya3, ya4⟩, ⟨ya5, ya6, ya7⟩⟩ := ya
                                obtain ⟨yb1, ⟨yb2, yb3, yb4⟩, ⟨yb5, yb6, yb7⟩⟩ := yb
                                have pa0 : W5.cell? ⟨gl, ofl + a * 3, none⟩ = some (.string ya1) := hca 0 _ rfl
                                have pa1 : W5.cell? ⟨gl, ofl + a * 3 + 1, none⟩ = some (.slice ya2 ya3 ya4) := hca 1 _ rfl
                                have pa2 : W5.cell? ⟨gl, ofl + a * 3 + 2, none⟩ = some (.slice ya5 ya6 ya7) := hca 2 _ rfl
                                obtain ⟨X, hX⟩ : ∃ X, X = W5.alloc (.cells #[.string ya1, .slice ya2 ya3 ya4, .slice ya5 ya6 ya7] 52) := ⟨_, rfl⟩
                                obtain ⟨bx, hbx⟩ : ∃ bx, bx = W5.heap.size := ⟨_, rfl⟩
                                have AX : Hid (Below W5.heap.size W5 X ∧ X.heap[bx]? = some (.cells #[.string ya1, .slice ya2 ya3 ya4, .slice ya5 ya6 ya7] 52 (0, 0)) ∧ gl ≠ bx) := Lib.hid (by
                                  have := OL.out.2.2
                                  rw [hX, hbx]; exact ⟨(Below.refl _ W5).alloc (Nat.le_refl _) _, heap_alloc_new _ _, by omega⟩)
                                have S7 := Lib.hid (S6.out.below AX.out.1)
                                have pb0 : X.cell? ⟨gl, ofl + b * 3, none⟩ = some (.string yb1) := by rw [AX.out.1.cell (p := ⟨gl, ofl + b * 3, none⟩) OL.out.2.2]; exact hcb 0 _ rfl
                                have pb1 : X.cell? ⟨gl, ofl + b * 3 + 1, none⟩ = some (.slice yb2 yb3 yb4) := by rw [AX.out.1.cell (p := ⟨gl, ofl + b * 3 + 1, none⟩) OL.out.2.2]; exact hcb 1 _ rfl
                                have pb2 : X.cell? ⟨gl, ofl + b * 3 + 2, none⟩ = some (.slice yb5 yb6 yb7) := by rw [AX.out.1.cell (p := ⟨gl, ofl + b * 3 + 2, none⟩) OL.out.2.2]; exact hcb 2 _ rfl
                                have k3 : X.cell? ⟨bo, 5, none⟩ = some (.slice (some ⟨gl, ofl, none⟩) np cp) := by rw [cell_of_row X _ 5 _ _ _ S7.out.o]; rfl
                                have dc : ∀ ad v, X.cell? ad = some v → X.drew.cell? ad = some v := fun ad v q => q
                                have db0 := dc _ _ pb0
                                have db1 := dc _ _ pb1
                                have db2 := dc _ _ pb2
                                have dk3 := dc _ _ k3
                                have H0 : Hid (OwnR kPt w.heap.size X (.slice (some ⟨gl, 0, none⟩) np cp) rs) := Lib.hid (by have q := S7.out.p; rw [OL.out.1] at q; exact q)
                                have HJ : Hid (ofl + a * 3 = a * kPt.k ∧ ofl + b * 3 = b * kPt.k) := Lib.hid (by rw [OL.out.1, Nat.zero_add, Nat.zero_add]; exact ⟨rfl, rfl⟩)
                                have FZ : Hid (∀ j, X.frozen? ⟨gl, j, none⟩ = false) := Lib.hid (fun j => by obtain ⟨cur, -, -, h, -⟩ := own_parts H0.out; exact frozen_of_row _ _ _ _ _ h)
                                have XC : Hid (∀ j v, W5.cell? ⟨gl, j, none⟩ = some v → X.cell? ⟨gl, j, none⟩ = some v) := Lib.hid (fun j v q => by rw [AX.out.1.cell (p := ⟨gl, j, none⟩) OL.out.2.2]; exact q)
                                have ta0 : X.cell? ⟨gl, ofl + a * 3, none⟩ = some (.string ya1) := XC.out _ _ pa0
                                have ta0' : X.drew.cell? ⟨gl, ofl + a * 3, none⟩ = some (.string ya1) := ta0
                                have ta1 : ∀ u, (X.setCell ⟨gl, ofl + a * 3, none⟩ u).cell? ⟨gl, ofl + a * 3 + 1, none⟩ = some (.slice ya2 ya3 ya4) := fun u => by
                                  rw [World.cell?_setCell_other X ⟨gl, ofl + a * 3, none⟩ ⟨gl, ofl + a * 3 + 1, none⟩ _ (by intro e; injection e with e1 e2; omega)]; exact XC.out _ _ pa1
                                have ta2 : ∀ u v, ((X.setCell ⟨gl, ofl + a * 3, none⟩ u).setCell ⟨gl, ofl + a * 3 + 1, none⟩ v).cell? ⟨gl, ofl + a * 3 + 2, none⟩ = some (.slice ya5 ya6 ya7) := fun u v => by
                                  rw [World.cell?_setCell_other _ ⟨gl, ofl + a * 3 + 1, none⟩ ⟨gl, ofl + a * 3 + 2, none⟩ _ (by intro e; injection e with e1 e2; omega), World.cell?_setCell_other X ⟨gl, ofl + a * 3, none⟩ ⟨gl, ofl + a * 3 + 2, none⟩ _ (by intro e; injection e with e1 e2; omega)]; exact XC.out _ _ pa2
                                have tf0 : X.frozen? ⟨gl, ofl + a * 3, none⟩ = false := FZ.out _
                                have tf0' : X.drew.frozen? ⟨gl, ofl + a * 3, none⟩ = false := FZ.out _
                                have tf1 : ∀ u, (X.setCell ⟨gl, ofl + a * 3, none⟩ u).frozen? ⟨gl, ofl + a * 3 + 1, none⟩ = false := fun u => by rw [World.frozen?_setCell]; exact FZ.out _
                                have tf2 : ∀ u v, ((X.setCell ⟨gl, ofl + a * 3, none⟩ u).setCell ⟨gl, ofl + a * 3 + 1, none⟩ v).frozen? ⟨gl, ofl + a * 3 + 2, none⟩ = false := fun u v => by rw [World.frozen?_setCell, World.frozen?_setCell]; exact FZ.out _
                                have hX' := hX.symm
                                have hbx' := hbx.symm
                                clear hX hbx hca hcb dc
                                go_upto_region 26 with fail
                                go_region
                                obtain ⟨W6, hW6⟩ : ∃ W6, (((X.setCell ⟨gl, ofl + a * 3, none⟩ (.string yb1)).setCell ⟨gl, ofl + a * 3 + 1, none⟩ (.slice yb2 yb3 yb4)).setCell ⟨gl, ofl + a * 3 + 2, none⟩ (.slice yb5 yb6 yb7)).drew = W6 := ⟨_, rfl⟩
                                have H6 : Hid (OwnR kPt w.heap.size W6 (.slice (some ⟨gl, 0, none⟩) np cp) (rs.set a ⟨yb1, ⟨yb2, yb3, yb4⟩, ⟨yb5, yb6, yb7⟩⟩) ∧ X.grownBy W6 (some gl)) := Lib.hid (by
                                  obtain ⟨q1, q2, -⟩ := own_put okPt H0.out a HL.out.1 ⟨yb1, ⟨yb2, yb3, yb4⟩, ⟨yb5, yb6, yb7⟩⟩
                                  rw [← hW6, HJ.out.1]
                                  exact ⟨q1, grown_drew q2⟩)
                                rw [hW6]
                                clear hW6 ta0 ta0' ta1 ta2 tf0 tf0' tf1 tf2
                                have R6 : Hid (W6.heap[bx]? = some (.cells #[.string ya1, .slice ya2 ya3 ya4, .slice ya5 ya6 ya7] 52 (0, 0)) ∧ SH w bz bo ⟨op, on, ols, opr, odl, ops, ov⟩ (.slice al nl cl) (.slice (some ⟨gl, ofl, none⟩) np cp) L2 (rs.set a ⟨yb1, ⟨yb2, yb3, yb4⟩, ⟨yb5, yb6, yb7⟩⟩) rs Q W6) := Lib.hid (by
                                  have o6 := H6.out.1
                                  rw [← OL.out.1] at o6
                                  refine ⟨?_, S7.out.parts o6 H6.out.2⟩
                                  rw [H6.out.2.block bx (lt_of_some AX.out.2.1) (fun e => AX.out.2.2 (by injection e with e; exact e.symm))]
                                  exact AX.out.2.1)
                                have x0 : W6.cell? ⟨bx, 0, none⟩ = some (.string ya1) := by rw [cell_of_row _ _ _ _ _ _ R6.out.1]; rfl
                                have x1 : W6.cell? ⟨bx, 1, none⟩ = some (.slice ya2 ya3 ya4) := by rw [cell_of_row _ _ _ _ _ _ R6.out.1]; rfl
                                have x2 : W6.cell? ⟨bx, 2, none⟩ = some (.slice ya5 ya6 ya7) := by rw [cell_of_row _ _ _ _ _ _ R6.out.1]; rfl
                                have k6 : W6.cell? ⟨bo, 5, none⟩ = some (.slice (some ⟨gl, ofl, none⟩) np cp) := by rw [cell_of_row W6 _ 5 _ _ _ R6.out.2.o]; rfl
                                have HB : Hid (b < (rs.set a ⟨yb1, ⟨yb2, yb3, yb4⟩, ⟨yb5, yb6, yb7⟩⟩).length) := Lib.hid (by rw [List.length_set]; exact HL.out.2)
                                clear pa0 pa1 pa2 pb0 pb1 pb2 k3 db0 db1 db2 dk3 k5
                                go_wp2_with (refine store_el okPt rfl (.tmp 188) (.tmp 187) rfl (j := ofl + b * 3) H6.out.1 HB.out ⟨ya1, ⟨ya2, ya3, ya4⟩, ⟨ya5, ya6, ya7⟩⟩ rfl HJ.out.2 rfl rfl ?_; intro W7 H7)
                                go_meet
                                case rel =>
                                  refine Lib.hid ?_
                                  have o7 := H7.out.1
                                  rw [← OL.out.1] at o7
                                  have q := R6.out.2.parts o7 H7.out.2
                                  rw [HY.out.1, HY.out.2] at q
                                  have q2 := SH.swap (a := a) (b := b) q (by rw [XY.out.2.2.2]; exact h1) (by rw [XY.out.2.2.2]; exact h2)
                                  unfold tn
                                  rw [if_pos (by rw [RSL.out]; exact ⟨h1, h2⟩), if_pos (by rw [XY.out.2.2.2]; exact ⟨h1, h2⟩)]
                                  exact q2
                            · have gab : decide (a < np ∧ b < np) = false := decide_eq_false hab
                              go_wp2_with fail
                              go_meet
                              case rel => exact Lib.hid (by unfold tn; rw [if_neg (by rw [RSL.out]; exact hab), if_neg (by rw [XY.out.2.2.2]; exact hab)]; exact S6.out)
                          case rest =>
                            as_aux_lemma =>
                              have S7 : Hid (SH w bz bo ⟨op, on, ols, opr, odl, ops, ov⟩ (.slice al nl cl) (.slice ap np cp) L2 (tn kPt.z a b rs) (tn kPt.z a b rs) (tn zP a b Q) wc) := hcut
                              obtain ⟨r2, hr2⟩ : ∃ r2, r2 = tn kPt.z a b rs := ⟨_, rfl⟩
                              obtain ⟨Q2, hQ2⟩ : ∃ Q2, Q2 = tn zP a b Q := ⟨_, rfl⟩
                              rw [← hr2, ← hQ2] at S7
                              rw [← hQ2] at TU
                              have QL2 : Hid (Q2.length = np ∧ r2.length = np) := Lib.hid ⟨by rw [hQ2, tn_len]; exact XY.out.2.2.2, by rw [hr2, tn_len]; exact RSL.out⟩
                              clear hr2 hQ2 hcut k5 S6
                              go_wp2_with fail
                              go_loopg [17, 18, 19, 20, 21] np (fun gg s17 _ _ _ _ wr => ∃ k : Nat, k ≤ np ∧ gg = np - k ∧ s17 = .int .i64 k ∧ Hid (SH w bz bo ⟨op, on, ols, opr, odl, ops, ov⟩ (.slice al nl cl) (.slice ap np cp) L2 r2 r2 (tkN a b Q2 k) wr))
                              case atStart => exact ⟨0, Nat.zero_le _, rfl, rfl, S7⟩
                              case round =>
                                clear S7
                                obtain ⟨k, hk, hg, rfl, S8⟩ := hrel
                                have GK := Lib.hid hg
                                clear hg
                                have k5 : wr.cell? ⟨bo, 5, none⟩ = some (.slice ap np cp) := by rw [cell_of_row wr _ 5 _ _ _ S8.out.o]; rfl
                                by_cases hkl : k < np
                                · as_aux_lemma =>
                                    have hkl' : (k : Int) < (np : Int) := by omega
                                    obtain ⟨Q4, hQ4⟩ : ∃ Q4, Q4 = tkN a b Q2 k := ⟨_, rfl⟩
                                    have S9 : Hid (SH w bz bo ⟨op, on, ols, opr, odl, ops, ov⟩ (.slice al nl cl) (.slice ap np cp) L2 r2 r2 Q4 wr) := Lib.hid (by rw [hQ4]; exact S8.out)
                                    have TK : Hid (Q4.length = np ∧ tkN a b Q2 (k + 1) = Q4.set k (tnP a b (Q4.getD k zP))) := Lib.hid ⟨by rw [hQ4, tkN_len]; exact QL2.out.1, by rw [hQ4]; rfl⟩
                                    clear hQ4 S8
                                    obtain ⟨g, ha0, -, hBg, hgs⟩ := S9.out.p.someOf (by rw [QL2.out.2]; omega)
                                    obtain ⟨off, hap, hoff⟩ : ∃ off, ap = some ⟨g, off, none⟩ ∧ off = 0 := ⟨0, ha0, rfl⟩
                                    subst hap
                                    have OF := Lib.hid (And.intro hoff (And.intro hBg hgs))
                                    clear ha0 hoff hBg hgs
                                    obtain ⟨pp, hpp⟩ : ∃ pp, pp = r2.getD k kPt.z := ⟨_, rfl⟩
                                    obtain ⟨b', off', e', hc⟩ := (S9.out.p.row okPt).at k (by rw [QL2.out.2]; exact hkl)
                                    simp only [Option.some.injEq, Addr.mk.injEq, and_true] at e'
                                    obtain ⟨rfl, rfl⟩ := e'
                                    rw [← hpp] at hc
                                    have NQ := S9.out.q.2 k (by rw [TK.out.1]; exact hkl)
                                    rw [← hpp] at NQ
                                    have HP := Lib.hid hpp
                                    obtain ⟨pn, ⟨m1, m2, m3⟩, ⟨l1, l2, l3⟩⟩ := pp
                                    have c1 : wr.cell? ⟨g, off + k * 3 + 1, none⟩ = some (.slice m1 m2 m3) := hc 1 _ rfl
                                    clear hpp hc
                                    obtain ⟨am, ham⟩ : ∃ am, am = (Q4.getD k zP).r := ⟨_, rfl⟩
                                    have MA : Hid (OwnR kAm w.heap.size wr (.slice m1 m2 m3) am ∧ m2 = am.length ∧ am = (Q4.getD k zP).r) := Lib.hid (by
                                      have q : OwnR kAm w.heap.size wr (.slice m1 m2 m3) am := by rw [ham]; exact NQ.2.1
                                      exact ⟨q, own_len q, ham⟩)
                                    clear NQ ham
                                    go_upto_region 32 with fail
                                    go_cut [211] from 189 to 257 (fun sb wx => sb = .bool (decide (a < m2 ∧ b < m2)) ∧ wr = wx)
                                    case first =>
                                      by_cases ean : a < m2
                                      · have eae : ((a : Int) < (m2 : Int)) := by omega
                                        have eab : decide ((a : Int) < (m2 : Int)) = true := decide_eq_true eae
                                        have eac : decide (a < m2) = true := decide_eq_true ean
                                        by_cases ebn : b < m2
                                        · have ebe : ((b : Int) < (m2 : Int)) := by omega
                                          have ebb : decide ((b : Int) < (m2 : Int)) = true := decide_eq_true ebe
                                          have ebc : decide (b < m2) = true := decide_eq_true ebn
                                          go_wp2_with fail
                                          go_meet
                                          case rel => exact ⟨by rw [decide_eq_true (show a < m2 ∧ b < m2 from ⟨ean, ebn⟩)], rfl⟩
                                        · have ebe : ¬ ((b : Int) < (m2 : Int)) := by omega
                                          have ebb : decide ((b : Int) < (m2 : Int)) = false := decide_eq_false ebe
                                          have ebc : decide (b < m2) = false := decide_eq_false ebn
                                          go_wp2_with fail
                                          go_meet
                                          case rel => exact ⟨by rw [decide_eq_false (show ¬ (a < m2 ∧ b < m2) from fun z => ebn z.2)], rfl⟩
                                      · have eae : ¬ ((a : Int) < (m2 : Int)) := by omega
                                        have eab : decide ((a : Int) < (m2 : Int)) = false := decide_eq_false eae
                                        have eac : decide (a < m2) = false := decide_eq_false ean
                                        go_wp2_with fail
                                        go_meet
                                        case rel => exact ⟨by rw [decide_eq_false (show ¬ (a < m2 ∧ b < m2) from fun z => ean z.1)], rfl⟩
                                    case rest =>
                                      obtain ⟨rfl, rfl⟩ := hcut
                                      clear c1 k5
                                      go_upto_if 211 with fail
                                      go_cut [19] from 189 to 257 (fun _ wx => Hid (SH w bz bo ⟨op, on, ols, opr, odl, ops, ov⟩ (.slice al nl cl) (.slice (some ⟨g, off, none⟩) np cp) L2 r2 r2 (Q4.set k ⟨(Q4.getD k zP).n, tn kAm.z a b am, (Q4.getD k zP).l⟩) wx))
                                      case first =>
                                        by_cases hab : a < m2 ∧ b < m2
                                        · have gab : decide (a < m2 ∧ b < m2) = true := decide_eq_true hab
                                          obtain ⟨h1, h2⟩ := hab
                                          as_aux_lemma =>
                                            have h1' : (a : Int) < (m2 : Int) := by omega
                                            have h2' : (b : Int) < (m2 : Int) := by omega
                                            have HL : Hid (a < am.length ∧ b < am.length) := Lib.hid (by rw [← MA.out.2.1]; exact ⟨h1, h2⟩)
                                            obtain ⟨gl, he0, -, hBg, hgs⟩ := MA.out.1.someOf (by have := HL.out.1; omega)
                                            obtain ⟨ofl, he, hof⟩ : ∃ ofl, m1 = some ⟨gl, ofl, none⟩ ∧ ofl = 0 := ⟨0, he0, rfl⟩
                                            subst he
                                            have OL := Lib.hid (And.intro hof (And.intro hBg hgs))
                                            clear he0 hof hBg hgs
                                            obtain ⟨ya, hya⟩ : ∃ y, y = am.getD a kAm.z := ⟨_, rfl⟩
                                            obtain ⟨yb, hyb⟩ : ∃ y, y = am.getD b kAm.z := ⟨_, rfl⟩
                                            obtain ⟨b', off', e', hca⟩ := (MA.out.1.row okAm).at a HL.out.1
                                            simp only [Option.some.injEq, Addr.mk.injEq, and_true] at e'
                                            obtain ⟨rfl, rfl⟩ := e'
                                            obtain ⟨b', off', e', hcb⟩ := (MA.out.1.row okAm).at b HL.out.2
                                            simp only [Option.some.injEq, Addr.mk.injEq, and_true] at e'
                                            obtain ⟨rfl, rfl⟩ := e'
                                            rw [← hya] at hca
                                            rw [← hyb] at hcb
                                            have HY := Lib.hid (And.intro hya hyb)
                                            clear hya hyb
                                            obtain ⟨ya1, ya2⟩ := ya
                                            obtain ⟨yb1, yb2⟩ := yb
                                            have pa0 : wr.cell? ⟨gl, ofl + a * 2, none⟩ = some (.string ya1) := hca 0 _ rfl
                                            have pa1 : wr.cell? ⟨gl, ofl + a * 2 + 1, none⟩ = some (.int .i64 ya2) := hca 1 _ rfl
                                            obtain ⟨X, hX⟩ : ∃ X, X = wr.alloc (.cells #[.string ya1, .int .i64 ya2] 56) := ⟨_, rfl⟩
                                            obtain ⟨bx, hbx⟩ : ∃ bx, bx = wr.heap.size := ⟨_, rfl⟩
                                            have AX : Hid (Below wr.heap.size wr X ∧ X.heap[bx]? = some (.cells #[.string ya1, .int .i64 ya2] 56 (0, 0)) ∧ gl ≠ bx) := Lib.hid (by
                                              have := OL.out.2.2
                                              rw [hX, hbx]; exact ⟨(Below.refl _ wr).alloc (Nat.le_refl _) _, heap_alloc_new _ _, by omega⟩)
                                            have S10 := Lib.hid (S9.out.below AX.out.1)
                                            have pb0 : X.cell? ⟨gl, ofl + b * 2, none⟩ = some (.string yb1) := by rw [AX.out.1.cell (p := ⟨gl, ofl + b * 2, none⟩) OL.out.2.2]; exact hcb 0 _ rfl
                                            have pb1 : X.cell? ⟨gl, ofl + b * 2 + 1, none⟩ = some (.int .i64 yb2) := by rw [AX.out.1.cell (p := ⟨gl, ofl + b * 2 + 1, none⟩) OL.out.2.2]; exact hcb 1 _ rfl
                                            have H0 : Hid (OwnR kAm w.heap.size X (.slice (some ⟨gl, 0, none⟩) m2 m3) am) := Lib.hid (by have q := MA.out.1.below AX.out.1; rw [OL.out.1] at q; exact q)
                                            have HJ : Hid (ofl + a * 2 = a * kAm.k ∧ ofl + b * 2 = b * kAm.k) := Lib.hid (by rw [OL.out.1, Nat.zero_add, Nat.zero_add]; exact ⟨rfl, rfl⟩)
                                            have HB : Hid (b < (am.set a (⟨yb1, yb2⟩ : Am)).length) := Lib.hid (by rw [List.length_set]; exact HL.out.2)
                                            have hX' := hX.symm
                                            have hbx' := hbx.symm
                                            clear hX hbx hca hcb
                                            have M1 : True := trivial
                                            go_wp2_with (first
                                              | (refine store_el okAm rfl (.tmp 222) (.tmp 221) rfl (j := ofl + a * 2) H0.out HL.out.1 ⟨yb1, yb2⟩ rfl HJ.out.1 rfl rfl ?_; intro W6 H6; clear M1
                                                 have R6 : Hid (W6.heap[bx]? = some (.cells #[.string ya1, .int .i64 ya2] 56 (0, 0))) := Lib.hid (by rw [H6.out.2.block bx (lt_of_some AX.out.2.1) (fun e => AX.out.2.2 (by injection e with e; exact e.symm))]; exact AX.out.2.1)
                                                 have x0 : W6.cell? ⟨bx, 0, none⟩ = some (.string ya1) := by rw [cell_of_row _ _ _ _ _ _ R6.out]; rfl
                                                 have x1 : W6.cell? ⟨bx, 1, none⟩ = some (.int .i64 ya2) := by rw [cell_of_row _ _ _ _ _ _ R6.out]; rfl)
                                              | (refine store_el okAm rfl (.tmp 226) (.tmp 225) rfl (j := ofl + b * 2) H6.out.1 HB.out ⟨ya1, ya2⟩ rfl HJ.out.2 rfl rfl ?_; intro W7 H7))
                                            go_meet
                                            case rel =>
                                              refine Lib.hid ?_
                                              have o7 := H7.out.1
                                              rw [← OL.out.1] at o7
                                              have hg : X.grownBy W7 (some gl) := H6.out.2.trans H7.out.2
                                              have q := S10.out.turnR (k := k) (g := gl) (W' := W7) (by rw [TK.out.1]; exact hkl) (by rw [← HP.out]; rfl) hg (by rw [← HP.out]; exact o7)
                                              rw [HY.out.1, HY.out.2] at q
                                              unfold tn
                                              rw [if_pos (by rw [← MA.out.2.1]; exact ⟨h1, h2⟩)]
                                              exact q
                                        · have gab : decide (a < m2 ∧ b < m2) = false := decide_eq_false hab
                                          go_wp2_with fail
                                          go_meet
                                          case rel => exact Lib.hid (by
                                            unfold tn
                                            rw [if_neg (by rw [← MA.out.2.1]; exact hab), MA.out.2.2]
                                            have e : Q4.set k ⟨(Q4.getD k zP).n, (Q4.getD k zP).r, (Q4.getD k zP).l⟩ = Q4 := by
                                              rw [getD_ge _ _ _ (by rw [TK.out.1]; exact hkl)]; exact List.set_getElem_self _
                                            rw [e]
                                            exact S9.out)
                                      case rest =>
                                        obtain ⟨Q5, hQ5⟩ : ∃ Q5, Q5 = Q4.set k ⟨(Q4.getD k zP).n, tn kAm.z a b am, (Q4.getD k zP).l⟩ := ⟨_, rfl⟩
                                        have SA : Hid (SH w bz bo ⟨op, on, ols, opr, odl, ops, ov⟩ (.slice al nl cl) (.slice (some ⟨g, off, none⟩) np cp) L2 r2 r2 Q5 wc) := Lib.hid (by rw [hQ5]; exact hcut.out)
                                        have TL : Hid (Q5.length = np ∧ (Q5.getD k zP).n = (Q4.getD k zP).n ∧ (Q5.getD k zP).r = tn kAm.z a b am ∧ (Q5.getD k zP).l = (Q4.getD k zP).l ∧ tkN a b Q2 (k + 1) = Q5.set k ⟨(Q5.getD k zP).n, (Q5.getD k zP).r, tn kAm.z a b (Q5.getD k zP).l⟩) := Lib.hid (by
                                          have e : Q5.getD k zP = ⟨(Q4.getD k zP).n, tn kAm.z a b am, (Q4.getD k zP).l⟩ := by rw [hQ5]; exact get_set _ _ _ _ (by rw [TK.out.1]; exact hkl)
                                          refine ⟨by rw [hQ5, List.length_set]; exact TK.out.1, by rw [e], by rw [e], by rw [e], ?_⟩
                                          rw [e, TK.out.2, hQ5, List.set_set, MA.out.2.2]
                                          rfl)
                                        clear hQ5 hcut S9 MA
                                        obtain ⟨W8, hW8⟩ : ∃ W8, W8 = wc := ⟨_, rfl⟩
                                        rw [← hW8] at SA
                                        rw [← hW8]
                                        clear hW8
                                        have k5 : W8.cell? ⟨bo, 5, none⟩ = some (.slice (some ⟨g, off, none⟩) np cp) := by rw [cell_of_row W8 _ 5 _ _ _ SA.out.o]; rfl
                                        obtain ⟨b', off', e', hc⟩ := (SA.out.p.row okPt).at k (by rw [QL2.out.2]; exact hkl)
                                        simp only [Option.some.injEq, Addr.mk.injEq, and_true] at e'
                                        obtain ⟨rfl, rfl⟩ := e'
                                        rw [← HP.out] at hc
                                        have c2 : W8.cell? ⟨g, off + k * 3 + 2, none⟩ = some (.slice l1 l2 l3) := hc 2 _ rfl
                                        have NQ := SA.out.q.2 k (by rw [TL.out.1]; exact hkl)
                                        rw [← HP.out] at NQ
                                        obtain ⟨am, ham⟩ : ∃ am, am = (Q5.getD k zP).l := ⟨_, rfl⟩
                                        have MA : Hid (OwnR kAm w.heap.size W8 (.slice l1 l2 l3) am ∧ l2 = am.length ∧ am = (Q5.getD k zP).l) := Lib.hid (by
                                          have q : OwnR kAm w.heap.size W8 (.slice l1 l2 l3) am := by rw [ham]; exact NQ.2.2
                                          exact ⟨q, own_len q, ham⟩)
                                        clear NQ ham hc
                                        go_upto_region 37 with fail
                                        go_cut [242] from 189 to 257 (fun sb wx => sb = .bool (decide (a < l2 ∧ b < l2)) ∧ W8 = wx)
                                        case first =>
                                          by_cases ean : a < l2
                                          · have eae : ((a : Int) < (l2 : Int)) := by omega
                                            have eab : decide ((a : Int) < (l2 : Int)) = true := decide_eq_true eae
                                            have eac : decide (a < l2) = true := decide_eq_true ean
                                            by_cases ebn : b < l2
                                            · have ebe : ((b : Int) < (l2 : Int)) := by omega
                                              have ebb : decide ((b : Int) < (l2 : Int)) = true := decide_eq_true ebe
                                              have ebc : decide (b < l2) = true := decide_eq_true ebn
                                              go_wp2_with fail
                                              go_meet
                                              case rel => exact ⟨by rw [decide_eq_true (show a < l2 ∧ b < l2 from ⟨ean, ebn⟩)], rfl⟩
                                            · have ebe : ¬ ((b : Int) < (l2 : Int)) := by omega
                                              have ebb : decide ((b : Int) < (l2 : Int)) = false := decide_eq_false ebe
                                              have ebc : decide (b < l2) = false := decide_eq_false ebn
                                              go_wp2_with fail
                                              go_meet
                                              case rel => exact ⟨by rw [decide_eq_false (show ¬ (a < l2 ∧ b < l2) from fun z => ebn z.2)], rfl⟩
                                          · have eae : ¬ ((a : Int) < (l2 : Int)) := by omega
                                            have eab : decide ((a : Int) < (l2 : Int)) = false := decide_eq_false eae
                                            have eac : decide (a < l2) = false := decide_eq_false ean
                                            go_wp2_with fail
                                            go_meet
                                            case rel => exact ⟨by rw [decide_eq_false (show ¬ (a < l2 ∧ b < l2) from fun z => ean z.1)], rfl⟩
                                        case rest =>
                                          obtain ⟨rfl, rfl⟩ := hcut
                                          clear c2 k5
                                          have ROUND : Hid (∀ wx, SH w bz bo ⟨op, on, ols, opr, odl, ops, ov⟩ (.slice al nl cl) (.slice (some ⟨g, off, none⟩) np cp) L2 r2 r2 (tkN a b Q2 (k + 1)) wx → ∃ k' : Nat, k' ≤ np ∧ np - (k + 1) = np - k' ∧ (Value.int .i64 ((k : Int) + 1)) = .int .i64 (k' : Int) ∧ Hid (SH w bz bo ⟨op, on, ols, opr, odl, ops, ov⟩ (.slice al nl cl) (.slice (some ⟨g, off, none⟩) np cp) L2 r2 r2 (tkN a b Q2 k') wx)) := Lib.hid (fun wx h => ⟨k + 1, by omega, rfl, by go_num, Lib.hid h⟩)
                                          by_cases hab : a < l2 ∧ b < l2
                                          · have gab : decide (a < l2 ∧ b < l2) = true := decide_eq_true hab
                                            obtain ⟨h1, h2⟩ := hab
                                            as_aux_lemma =>
                                              have h1' : (a : Int) < (l2 : Int) := by omega
                                              have h2' : (b : Int) < (l2 : Int) := by omega
                                              have HL : Hid (a < am.length ∧ b < am.length) := Lib.hid (by rw [← MA.out.2.1]; exact ⟨h1, h2⟩)
                                              obtain ⟨gl, he0, -, hBg, hgs⟩ := MA.out.1.someOf (by have := HL.out.1; omega)
                                              obtain ⟨ofl, he, hof⟩ : ∃ ofl, l1 = some ⟨gl, ofl, none⟩ ∧ ofl = 0 := ⟨0, he0, rfl⟩
                                              subst he
                                              have OL := Lib.hid (And.intro hof (And.intro hBg hgs))
                                              clear he0 hof hBg hgs
                                              obtain ⟨ya, hya⟩ : ∃ y, y = am.getD a kAm.z := ⟨_, rfl⟩
                                              obtain ⟨yb, hyb⟩ : ∃ y, y = am.getD b kAm.z := ⟨_, rfl⟩
                                              obtain ⟨b', off', e', hca⟩ := (MA.out.1.row okAm).at a HL.out.1
                                              simp only [Option.some.injEq, Addr.mk.injEq, and_true] at e'
                                              obtain ⟨rfl, rfl⟩ := e'
                                              obtain ⟨b', off', e', hcb⟩ := (MA.out.1.row okAm).at b HL.out.2
                                              simp only [Option.some.injEq, Addr.mk.injEq, and_true] at e'
                                              obtain ⟨rfl, rfl⟩ := e'
                                              rw [← hya] at hca
                                              rw [← hyb] at hcb
                                              have HY := Lib.hid (And.intro hya hyb)
                                              clear hya hyb
                                              obtain ⟨ya1, ya2⟩ := ya
                                              obtain ⟨yb1, yb2⟩ := yb
                                              have pa0 : W8.cell? ⟨gl, ofl + a * 2, none⟩ = some (.string ya1) := hca 0 _ rfl
                                              have pa1 : W8.cell? ⟨gl, ofl + a * 2 + 1, none⟩ = some (.int .i64 ya2) := hca 1 _ rfl
                                              obtain ⟨X, hX⟩ : ∃ X, X = W8.alloc (.cells #[.string ya1, .int .i64 ya2] 56) := ⟨_, rfl⟩
                                              obtain ⟨bx, hbx⟩ : ∃ bx, bx = W8.heap.size := ⟨_, rfl⟩
                                              have AX : Hid (Below W8.heap.size W8 X ∧ X.heap[bx]? = some (.cells #[.string ya1, .int .i64 ya2] 56 (0, 0)) ∧ gl ≠ bx) := Lib.hid (by
                                                have := OL.out.2.2
                                                rw [hX, hbx]; exact ⟨(Below.refl _ W8).alloc (Nat.le_refl _) _, heap_alloc_new _ _, by omega⟩)
                                              have S9 := Lib.hid (SA.out.below AX.out.1)
                                              have pb0 : X.cell? ⟨gl, ofl + b * 2, none⟩ = some (.string yb1) := by rw [AX.out.1.cell (p := ⟨gl, ofl + b * 2, none⟩) OL.out.2.2]; exact hcb 0 _ rfl
                                              have pb1 : X.cell? ⟨gl, ofl + b * 2 + 1, none⟩ = some (.int .i64 yb2) := by rw [AX.out.1.cell (p := ⟨gl, ofl + b * 2 + 1, none⟩) OL.out.2.2]; exact hcb 1 _ rfl
                                              have H0 : Hid (OwnR kAm w.heap.size X (.slice (some ⟨gl, 0, none⟩) l2 l3) am) := Lib.hid (by have q := MA.out.1.below AX.out.1; rw [OL.out.1] at q; exact q)
                                              have HJ : Hid (ofl + a * 2 = a * kAm.k ∧ ofl + b * 2 = b * kAm.k) := Lib.hid (by rw [OL.out.1, Nat.zero_add, Nat.zero_add]; exact ⟨rfl, rfl⟩)
                                              have HB : Hid (b < (am.set a (⟨yb1, yb2⟩ : Am)).length) := Lib.hid (by rw [List.length_set]; exact HL.out.2)
                                              have hX' := hX.symm
                                              have hbx' := hbx.symm
                                              clear hX hbx hca hcb
                                              have M1 : True := trivial
                                              go_wp2_with (first
                                                | (refine store_el okAm rfl (.tmp 253) (.tmp 252) rfl (j := ofl + a * 2) H0.out HL.out.1 ⟨yb1, yb2⟩ rfl HJ.out.1 rfl rfl ?_; intro W6 H6; clear M1
                                                   have R6 : Hid (W6.heap[bx]? = some (.cells #[.string ya1, .int .i64 ya2] 56 (0, 0))) := Lib.hid (by rw [H6.out.2.block bx (lt_of_some AX.out.2.1) (fun e => AX.out.2.2 (by injection e with e; exact e.symm))]; exact AX.out.2.1)
                                                   have x0 : W6.cell? ⟨bx, 0, none⟩ = some (.string ya1) := by rw [cell_of_row _ _ _ _ _ _ R6.out]; rfl
                                                   have x1 : W6.cell? ⟨bx, 1, none⟩ = some (.int .i64 ya2) := by rw [cell_of_row _ _ _ _ _ _ R6.out]; rfl)
                                                | (refine store_el okAm rfl (.tmp 257) (.tmp 256) rfl (j := ofl + b * 2) H6.out.1 HB.out ⟨ya1, ya2⟩ rfl HJ.out.2 rfl rfl ?_; intro W7 H7))
                                              have SB : Hid (SH w bz bo ⟨op, on, ols, opr, odl, ops, ov⟩ (.slice al nl cl) (.slice (some ⟨g, off, none⟩) np cp) L2 r2 r2 (tkN a b Q2 (k + 1)) W7) := Lib.hid (by
                                                have o7 := H7.out.1
                                                rw [← OL.out.1] at o7
                                                have hg : X.grownBy W7 (some gl) := H6.out.2.trans H7.out.2
                                                have q := S9.out.turnL (k := k) (g := gl) (W' := W7) (by rw [TL.out.1]; exact hkl) (by rw [← HP.out]; rfl) hg (by rw [← HP.out]; exact o7)
                                                rw [HY.out.1, HY.out.2] at q
                                                rw [TL.out.2.2.2.2, ← MA.out.2.2]
                                                unfold tn
                                                rw [if_pos (by rw [← MA.out.2.1]; exact ⟨h1, h2⟩)]
                                                exact q)
                                              go_roundg (np - (k + 1))
                                              case measure => have := GK.out; omega
                                              case rel => exact ROUND.out _ SB.out
                                          · have gab : decide (a < l2 ∧ b < l2) = false := decide_eq_false hab
                                            have SB : Hid (SH w bz bo ⟨op, on, ols, opr, odl, ops, ov⟩ (.slice al nl cl) (.slice (some ⟨g, off, none⟩) np cp) L2 r2 r2 (tkN a b Q2 (k + 1)) W8) := Lib.hid (by
                                              rw [TL.out.2.2.2.2]
                                              unfold tn
                                              rw [if_neg (by rw [← MA.out.2.2, ← MA.out.2.1]; exact hab)]
                                              have e : Q5.set k ⟨(Q5.getD k zP).n, (Q5.getD k zP).r, (Q5.getD k zP).l⟩ = Q5 := by
                                                rw [getD_ge _ _ _ (by rw [TL.out.1]; exact hkl)]; exact List.set_getElem_self _
                                              rw [e]
                                              exact SA.out)
                                            go_wp2_with fail
                                            go_roundg (np - (k + 1))
                                            case measure => have := GK.out; omega
                                            case rel => exact ROUND.out _ SB.out
                                · as_aux_lemma =>
                                    have hge : ¬ (k : Int) < (np : Int) := by omega
                                    have F8 : Hid (SH w bz bo ⟨op, on, ols, opr, odl, ops, ov⟩ (.slice al nl cl) (.slice ap np cp) L2 r2 r2 (tkN a b Q2 np) wr) := Lib.hid (by have q := S8.out; rw [show k = np by omega] at q; exact q)
                                    go_wp2_with fail
                                    go_roundg (nh - (j + 1))
                                    case measure => have := GJ.out; have := JL.out; omega
                                    case rel => exact ⟨j + 1, i + 2, r2, by have := JL.out; omega, rfl, by go_num, Lib.hid ⟨by have := I2.out; omega, by rw [TU.out]; exact F8.out⟩⟩
          · as_aux_lemma =>
              have hge : ¬ (i : Int) + 1 < (nt : Int) := by omega
              obtain ⟨LF, hLF⟩ : ∃ LF, LF = (tuN ts (ols, PS) nh).1 := ⟨_, rfl⟩
              obtain ⟨QF, hQF⟩ : ∃ QF, QF = (tuN ts (ols, PS) nh).2 := ⟨_, rfl⟩
              have T6 : Hid (SH w bz bo ⟨op, on, ols, opr, odl, ops, ov⟩ (.slice al nl cl) (.slice ap np cp) LF rs rs QF wr) := Lib.hid (by
                have q := S3.out.2
                rw [show j = nh by have := S3.out.1; have := NH.out; omega, ← hLF, ← hQF] at q
                exact q)
              have SF : Hid (shf ⟨op, on, ols, opr, odl, ops, ov⟩ ts cs = ⟨op, on, LF, opr, odl, QF, ov⟩) := Lib.hid (by
                have e : nh = ts.length / 2 := by rw [NH.out, HN.out.2.2.1]
                unfold shf
                simp only
                rw [← PL.out.2, ← e, ← hLF, ← hQF])
              clear hLF hQF S3
              have cc9 : ∀ j y, (#[.string op, .string on, .slice al nl cl, .int .i64 opr, .int .i64 odl, .slice ap np cp, .int .i64 ov] : Array Value)[j]? = some y → wr.cell? ⟨bo, j, none⟩ = some y := fun j y hy => by rw [cell_of_row wr _ j _ _ _ T6.out.o]; exact hy
              have e0 := cc9 0 _ rfl
              have e1 := cc9 1 _ rfl
              have e2 := cc9 2 _ rfl
              have e3 := cc9 3 _ rfl
              have e4 := cc9 4 _ rfl
              have e5 := cc9 5 _ rfl
              have e6 := cc9 6 _ rfl
              have ON : Hid ((#[.string op, .string on, .slice al nl cl, .int .i64 opr, .int .i64 odl, .slice ap np cp, .int .i64 ov] : Array Value).all (·.oneCell') = true) := Lib.hid (by simp [Value.oneCell'])
              clear cc9
              go_wp2_with (refine wpList_store_row rfl 25 (.tmp 6) (.tmp 258) rfl bz #[.string op, .string on, .slice al nl cl, .int .i64 opr, .int .i64 odl, .slice ap np cp, .int .i64 ov] rfl rfl 25 #[.string ⟨#[]⟩, .string ⟨#[]⟩, .slice none 0 0, .int .i64 0, .int .i64 0, .slice none 0 0, .int .i64 0] T6.out.z size_obj rfl ON.out ?_)
              have D := T6.out.done #[.string op, .string on, .slice al nl cl, .int .i64 opr, .int .i64 odl, .slice ap np cp, .int .i64 ov]
              refine bodyPost_ret (results_cell_row rfl _ _ bz 25 #[.string op, .string on, .slice al nl cl, .int .i64 opr, .int .i64 odl, .slice ap np cp, .int .i64 ov] (0, 0) _ rfl (setRow_heap _ _ _ _ _ _ T6.out.z) Tryz.underlying25 rfl size_obj) rfl ?_
              rw [SF.out]
              exact ⟨.slice al nl cl, .slice ap np cp, rfl, D.1, D.2⟩
end Nx
end Go.Proofs.YtehgnbgbmicheaaGreatDoor
