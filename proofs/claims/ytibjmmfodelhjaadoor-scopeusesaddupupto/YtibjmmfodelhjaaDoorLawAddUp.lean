/-
  THE WALK of ScopeUsesAddUp.
-/
import Derived.Test.YtibjmmfodelhjaaDoorScBx
import Derived.Test.YtibjmmfodelhjaaDoorScN
import Derived.Test.YtibjmmfodelhjaaDoorScF
import Derived.Sort.Walk0
namespace Go.Proofs.YtibjmmfodelhjaaDoor
open Go.RowKit
open Go.Sort (grow)
set_option maxHeartbeats 16000000 in
set_option maxRecDepth 100000 in
theorem scopeUsesAddUp_walk (o : Ob) (ls ps : Value) (o' : Ob) (ls' ps' : Value) (w : World) (hN : Nms w) (hv : ObV w ls ps o ∧ OSz o ∧ PSz o.ps ∧ o.ps.length ≤ 2000000 ∧ (obEs o.ps).length ≤ 2000000) (hv' : ObV w ls' ps' o' ∧ OSz o' ∧ PSz o'.ps ∧ o'.ps.length ≤ 2000000 ∧ (obEs o'.ps).length ≤ 2000000) :
    Calls Tryd.prog 3 #[o.val ls ps, o'.val ls' ps'] w fun e w' => e = .returned (.bool true) ∧ Below w.heap.size w w' := by
  have H := Lib.hid hN
  clear hN
  have AZ : Hid (OSz o) := Lib.hid hv.2.1
  have AP : Hid (PSz o.ps ∧ o.ps.length ≤ 2000000 ∧ (obEs o.ps).length ≤ 2000000) := Lib.hid hv.2.2
  have AV : Hid (ObV w _ _ o) := Lib.hid hv.1
  obtain ⟨ala, alc, rfl, _, _⟩ := hv.1.l.len
  obtain ⟨apa, apc, rfl, _, _⟩ := hv.1.p.len
  clear hv
  obtain ⟨ap, an, als, apr, adl, aps, aver⟩ := o
  simp only at AV AP
  have BZ : Hid (OSz o') := Lib.hid hv'.2.1
  have BP : Hid (PSz o'.ps ∧ o'.ps.length ≤ 2000000 ∧ (obEs o'.ps).length ≤ 2000000) := Lib.hid hv'.2.2
  have BV : Hid (ObV w _ _ o') := Lib.hid hv'.1
  obtain ⟨bla, blc, rfl, _, _⟩ := hv'.1.l.len
  obtain ⟨bpa, bpc, rfl, _, _⟩ := hv'.1.p.len
  clear hv'
  obtain ⟨bp, bn, bls, bpr, bdl, bps, bver⟩ := o'
  simp only at BV BP
  unfold Ob.val
  simp only
  obtain ⟨aln, haln⟩ : ∃ n, n = als.length := ⟨_, rfl⟩
  obtain ⟨apn, hapn⟩ : ∃ n, n = aps.length := ⟨_, rfl⟩
  rw [← haln, ← hapn] at AV ⊢
  have AL : Hid (aln = als.length ∧ apn = aps.length) := Lib.hid ⟨haln, hapn⟩
  have bapn : apn ≤ 2000000 := by rw [hapn]; exact AP.out.2.1
  clear haln hapn
  obtain ⟨bln, hbln⟩ : ∃ n, n = bls.length := ⟨_, rfl⟩
  obtain ⟨bpn, hbpn⟩ : ∃ n, n = bps.length := ⟨_, rfl⟩
  rw [← hbln, ← hbpn] at BV ⊢
  have BL : Hid (bln = bls.length ∧ bpn = bps.length) := Lib.hid ⟨hbln, hbpn⟩
  have bbpn : bpn ≤ 2000000 := by rw [hbpn]; exact BP.out.2.1
  clear hbln hbpn
  obtain ⟨X, hX⟩ : ∃ X, X = (w.alloc (.cells #[.string ap, .string an, .slice ala aln alc, .int .i64 apr, .int .i64 adl, .slice apa apn apc, .int .i64 aver] 25)).alloc (.cells #[.string bp, .string bn, .slice bla bln blc, .int .i64 bpr, .int .i64 bdl, .slice bpa bpn bpc, .int .i64 bver] 25) := ⟨_, rfl⟩
  have BX : Hid (Below w.heap.size w X ∧ X.heap[w.heap.size]? = some (.cells #[.string ap, .string an, .slice ala aln alc, .int .i64 apr, .int .i64 adl, .slice apa apn apc, .int .i64 aver] 25 (0, 0)) ∧ X.heap[w.heap.size + 1]? = some (.cells #[.string bp, .string bn, .slice bla bln blc, .int .i64 bpr, .int .i64 bdl, .slice bpa bpn bpc, .int .i64 bver] 25 (0, 0)) ∧ X.heap.size = w.heap.size + 2) := Lib.hid (by
    rw [hX]
    refine ⟨?_, ?_, ?_, by simp⟩
    · have q := (below_alR w).out (.cells #[.string ap, .string an, .slice ala aln alc, .int .i64 apr, .int .i64 adl, .slice apa apn apc, .int .i64 aver] 25)
      exact q.alloc q.size _
    · rw [((Below.refl _ (w.alloc _)).alloc (Nat.le_refl _) _).block w.heap.size (by simp)]
      exact heap_alloc_new _ _
    · have e : w.heap.size + 1 = (w.alloc (.cells #[.string ap, .string an, .slice ala aln alc, .int .i64 apr, .int .i64 adl, .slice apa apn apc, .int .i64 aver] 25)).heap.size := by simp
      rw [e]; exact heap_alloc_new _ _)
  have KC : Hid (∀ W : World, Below X.heap.size X W → (W.cell? ⟨w.heap.size, 0, none⟩ = some (.string ap) ∧ W.cell? ⟨w.heap.size, 1, none⟩ = some (.string an) ∧ W.cell? ⟨w.heap.size, 2, none⟩ = some (.slice ala aln alc) ∧ W.cell? ⟨w.heap.size, 3, none⟩ = some (.int .i64 apr) ∧ W.cell? ⟨w.heap.size, 4, none⟩ = some (.int .i64 adl) ∧ W.cell? ⟨w.heap.size, 5, none⟩ = some (.slice apa apn apc) ∧ W.cell? ⟨w.heap.size, 6, none⟩ = some (.int .i64 aver)) ∧ (W.cell? ⟨w.heap.size + 1, 0, none⟩ = some (.string bp) ∧ W.cell? ⟨w.heap.size + 1, 1, none⟩ = some (.string bn) ∧ W.cell? ⟨w.heap.size + 1, 2, none⟩ = some (.slice bla bln blc) ∧ W.cell? ⟨w.heap.size + 1, 3, none⟩ = some (.int .i64 bpr) ∧ W.cell? ⟨w.heap.size + 1, 4, none⟩ = some (.int .i64 bdl) ∧ W.cell? ⟨w.heap.size + 1, 5, none⟩ = some (.slice bpa bpn bpc) ∧ W.cell? ⟨w.heap.size + 1, 6, none⟩ = some (.int .i64 bver)) ∧ Below w.heap.size w W ∧ Nms W) := Lib.hid fun W hb => by
    have bw := BX.out.1.trans (hb.mono BX.out.1.size)
    have ra : W.heap[w.heap.size]? = some (.cells #[.string ap, .string an, .slice ala aln alc, .int .i64 apr, .int .i64 adl, .slice apa apn apc, .int .i64 aver] 25 (0, 0)) := by rw [hb.block _ (by rw [BX.out.2.2.2]; omega)]; exact BX.out.2.1
    have rb : W.heap[w.heap.size + 1]? = some (.cells #[.string bp, .string bn, .slice bla bln blc, .int .i64 bpr, .int .i64 bdl, .slice bpa bpn bpc, .int .i64 bver] 25 (0, 0)) := by rw [hb.block _ (by rw [BX.out.2.2.2]; omega)]; exact BX.out.2.2.1
    exact ⟨⟨cell_of_row W _ 0 _ _ _ ra, cell_of_row W _ 1 _ _ _ ra, cell_of_row W _ 2 _ _ _ ra, cell_of_row W _ 3 _ _ _ ra, cell_of_row W _ 4 _ _ _ ra, cell_of_row W _ 5 _ _ _ ra, cell_of_row W _ 6 _ _ _ ra⟩, ⟨cell_of_row W _ 0 _ _ _ rb, cell_of_row W _ 1 _ _ _ rb, cell_of_row W _ 2 _ _ _ rb, cell_of_row W _ 3 _ _ _ rb, cell_of_row W _ 4 _ _ _ rb, cell_of_row W _ 5 _ _ _ rb, cell_of_row W _ 6 _ _ _ rb⟩, bw, H.out.below bw⟩
  have EX := Lib.hid hX
  clear hX
  have FX := Lib.hid (fixed_any X (H.out.below BX.out.1))
  rw [EX.out] at FX
  have OWA : Hid (∀ W, Below X.heap.size X W → Calls Tryd.prog 11 #[.agg #[.string ap, .string an, .slice ala aln alc, .int .i64 apr, .int .i64 adl, .slice apa apn apc, .int .i64 aver]] W fun e w' => ∃ xa xc ya yc, e = .returned (.agg #[.string ap, .string an, .slice xa aln xc, .int .i64 apr, .int .i64 adl, .slice ya apn yc, .int .i64 aver]) ∧ (∃ rs, OwnR kPt W.heap.size w' (.slice ya apn yc) rs ∧ Nst W.heap.size w' rs aps) ∧ Below W.heap.size W w') := Lib.hid fun W hb => by
    refine (own_any ⟨ap, an, als, apr, adl, aps, aver⟩ (.slice ala aln alc) (.slice apa apn apc) W (AV.out.below (KC.out W hb).2.2.1) AZ.out).mono ?_
    rintro e w' ⟨xa, xc, ya, yc, he, ho, hb'⟩
    refine ⟨xa, xc, ya, yc, ?_, ?_, hb'⟩
    · rw [he]; unfold Ob.val; simp only [AL.out.1, AL.out.2]
    · have := ho.2
      simp only at this
      rw [AL.out.2]; exact this
  have OWB : Hid (∀ W, Below X.heap.size X W → Calls Tryd.prog 11 #[.agg #[.string bp, .string bn, .slice bla bln blc, .int .i64 bpr, .int .i64 bdl, .slice bpa bpn bpc, .int .i64 bver]] W fun e w' => ∃ xa xc ya yc, e = .returned (.agg #[.string bp, .string bn, .slice xa bln xc, .int .i64 bpr, .int .i64 bdl, .slice ya bpn yc, .int .i64 bver]) ∧ (∃ rs, OwnR kPt W.heap.size w' (.slice ya bpn yc) rs ∧ Nst W.heap.size w' rs bps) ∧ Below W.heap.size W w') := Lib.hid fun W hb => by
    refine (own_any ⟨bp, bn, bls, bpr, bdl, bps, bver⟩ (.slice bla bln blc) (.slice bpa bpn bpc) W (BV.out.below (KC.out W hb).2.2.1) BZ.out).mono ?_
    rintro e w' ⟨xa, xc, ya, yc, he, ho, hb'⟩
    refine ⟨xa, xc, ya, yc, ?_, ?_, hb'⟩
    · rw [he]; unfold Ob.val; simp only [BL.out.1, BL.out.2]
    · have := ho.2
      simp only at this
      rw [BL.out.2]; exact this
  obtain ⟨ea, hea⟩ : ∃ e, e = usesE aps := ⟨_, rfl⟩
  obtain ⟨la, hla⟩ : ∃ l, l = usesL aps := ⟨_, rfl⟩
  have EA : Hid (ea = usesE aps ∧ la = usesL aps) := Lib.hid ⟨hea, hla⟩
  have USA : Hid (∀ W xa xc ya yc, Pts W (.slice ya apn yc) aps → Calls Tryd.prog 10 #[.agg #[.string ap, .string an, .slice xa aln xc, .int .i64 apr, .int .i64 adl, .slice ya apn yc, .int .i64 aver]] W fun e w' => ∃ a n c, e = .returned (.tuple #[.slice a n c, .int .i64 ea]) ∧ OwnR kAm W.heap.size w' (.slice a n c) la ∧ Below W.heap.size W w') := Lib.hid fun W xa xc ya yc hp => by
    rw [hea, hla]
    rw [AL.out.2] at hp ⊢
    exact uses_core _ _ _ _ _ _ _ _ _ _ aps W hp AP.out.1
  clear hea hla
  obtain ⟨eb, heb⟩ : ∃ e, e = usesE bps := ⟨_, rfl⟩
  obtain ⟨lb, hlb⟩ : ∃ l, l = usesL bps := ⟨_, rfl⟩
  have EB : Hid (eb = usesE bps ∧ lb = usesL bps) := Lib.hid ⟨heb, hlb⟩
  have USB : Hid (∀ W xa xc ya yc, Pts W (.slice ya bpn yc) bps → Calls Tryd.prog 10 #[.agg #[.string bp, .string bn, .slice xa bln xc, .int .i64 bpr, .int .i64 bdl, .slice ya bpn yc, .int .i64 bver]] W fun e w' => ∃ a n c, e = .returned (.tuple #[.slice a n c, .int .i64 eb]) ∧ OwnR kAm W.heap.size w' (.slice a n c) lb ∧ Below W.heap.size W w') := Lib.hid fun W xa xc ya yc hp => by
    rw [heb, hlb]
    rw [BL.out.2] at hp ⊢
    exact uses_core _ _ _ _ _ _ _ _ _ _ bps W hp BP.out.1
  clear heb hlb
  obtain ⟨eJ, heJ⟩ : ∃ e, e = usesE (aps ++ bps ++ [noneP]) := ⟨_, rfl⟩
  obtain ⟨lJ, hlJ⟩ : ∃ l, l = usesL (aps ++ bps ++ [noneP]) := ⟨_, rfl⟩
  have EJ : Hid (eJ = usesE (aps ++ bps ++ [noneP]) ∧ lJ = usesL (aps ++ bps ++ [noneP])) := Lib.hid ⟨heJ, hlJ⟩
  have PJ := Lib.hid (AP.out.1.join BP.out.1 AP.out.2.2 BP.out.2.2)
  have USC : Hid (∀ W pa' pc', Pts W (.slice pa' (apn + bpn + 1) pc') (aps ++ bps ++ [noneP]) → ∀ xla xlc, Calls Tryd.prog 10 #[.agg #[.string ap, .string an, .slice xla aln xlc, .int .i64 apr, .int .i64 adl, .slice pa' (apn + bpn + 1) pc', .int .i64 aver]] W fun e w' => ∃ a n c, e = .returned (.tuple #[.slice a n c, .int .i64 eJ]) ∧ OwnR kAm W.heap.size w' (.slice a n c) lJ ∧ Below W.heap.size W w') := Lib.hid fun W pa' pc' hp xla xlc => by
    have el : apn + bpn + 1 = (aps ++ bps ++ [noneP]).length := by rw [List.length_append, List.length_append, ← AL.out.2, ← BL.out.2]; rfl
    rw [heJ, hlJ]
    rw [el] at hp ⊢
    exact uses_core _ _ _ _ _ _ _ _ _ _ _ W hp PJ.out.1
  have USD : Hid (∀ W pa' pc', Pts W (.slice pa' (bpn + apn) pc') (bps ++ aps) → ∀ xla xlc, Calls Tryd.prog 10 #[.agg #[.string bp, .string bn, .slice xla bln xlc, .int .i64 bpr, .int .i64 bdl, .slice pa' (bpn + apn) pc', .int .i64 bver]] W fun e w' => ∃ a n c, e = .returned (.tuple #[.slice a n c, .int .i64 eJ]) ∧ OwnR kAm W.heap.size w' (.slice a n c) lJ ∧ Below W.heap.size W w') := Lib.hid fun W pa' pc' hp xla xlc => by
    have el : bpn + apn = (bps ++ aps).length := by rw [List.length_append, ← AL.out.2, ← BL.out.2]
    rw [heJ, hlJ, (uses_join aps bps).1, (uses_join aps bps).2]
    rw [el] at hp ⊢
    exact uses_core _ _ _ _ _ _ _ _ _ _ _ W hp PJ.out.2
  clear heJ hlJ
  go_enter Tryd.func3, Tryd.ntmps3
  go_wp2_with fail
  refine FX.out.mono ?_
  rintro e w1 ⟨rfl, hb1⟩
  rw [← EX.out] at hb1
  have X1 := Lib.hid hb1
  clear hb1 FX EX
  obtain ⟨⟨za0, za1, za2, za3, za4, za5, za6⟩, ⟨zb0, zb1, zb2, zb3, zb4, zb5, zb6⟩, -, -⟩ := KC.out w1 X1.out
  go_wp2_with fail
  refine (OWA.out w1 X1.out).mono ?_
  rintro e w2 ⟨xa, xc, ya, yc, rfl, ⟨rs, ho, hn⟩, hb2⟩
  clear za0 za1 za2 za3 za4 za5 za6 zb0 zb1 zb2 zb3 zb4 zb5 zb6
  go_wp2_with fail
  refine (USA.out w2 _ _ _ _ (hn.pts ho)).mono ?_
  rintro e w3 ⟨ua, un, uc, rfl, hu, hb3⟩
  have X3 : Hid (Below X.heap.size X w3 ∧ Row kAm w3 (.slice ua un uc) la) := Lib.hid (by
    have q := X1.out.trans (hb2.mono X1.out.size)
    exact ⟨q.trans (hb3.mono q.size), hu.row okAm⟩)
  clear ho hn hb2 hb3 hu
  obtain ⟨⟨za0, za1, za2, za3, za4, za5, za6⟩, ⟨zb0, zb1, zb2, zb3, zb4, zb5, zb6⟩, -, -⟩ := KC.out w3 X3.out.1
  go_wp2_with fail
  refine (OWB.out w3 X3.out.1).mono ?_
  rintro e w4 ⟨xa2, xc2, ya2, yc2, rfl, ⟨rs2, ho, hn⟩, hb2⟩
  clear za0 za1 za2 za3 za4 za5 za6 zb0 zb1 zb2 zb3 zb4 zb5 zb6
  go_wp2_with fail
  refine (USB.out w4 _ _ _ _ (hn.pts ho)).mono ?_
  rintro e w5 ⟨va, vn, vc, rfl, hu, hb3⟩
  have X5 : Hid (Below X.heap.size X w5 ∧ Row kAm w5 (.slice ua un uc) la ∧ Row kAm w5 (.slice va vn vc) lb) := Lib.hid (by
    have q := X3.out.1.trans (hb2.mono X3.out.1.size)
    exact ⟨q.trans (hb3.mono q.size), (X3.out.2.below hb2).below hb3, hu.row okAm⟩)
  clear ho hn hb2 hb3 hu
  obtain ⟨⟨za0, za1, za2, za3, za4, za5, za6⟩, ⟨zb0, zb1, zb2, zb3, zb4, zb5, zb6⟩, -, -⟩ := KC.out w5 X5.out.1
  go_wp2_with fail
  refine (OWA.out w5 X5.out.1).mono ?_
  rintro e w6 ⟨xa, xc, ya, yc, rfl, ⟨rs, ho, hn⟩, hb2⟩
  clear za0 za1 za2 za3 za4 za5 za6 zb0 zb1 zb2 zb3 zb4 zb5 zb6
  have S6 : Hid (OwnR kPt w5.heap.size w6 (.slice ya apn yc) rs ∧ Nst w5.heap.size w6 rs aps ∧ Below w5.heap.size w5 w6 ∧ Below X.heap.size X w6) := Lib.hid ⟨ho, hn, hb2, X5.out.1.trans (hb2.mono X5.out.1.size)⟩
  clear ho hn hb2
  obtain ⟨Y, hY⟩ : ∃ Y, Y = w6.alloc (.cells #[.string ap, .string an, .slice xa aln xc, .int .i64 apr, .int .i64 adl, .slice ya apn yc, .int .i64 aver] 25) := ⟨_, rfl⟩
  have YS : Hid (Below w6.heap.size w6 Y ∧ Y.heap[w6.heap.size]? = some (.cells #[.string ap, .string an, .slice xa aln xc, .int .i64 apr, .int .i64 adl, .slice ya apn yc, .int .i64 aver] 25 (0, 0)) ∧ Y.heap.size = w6.heap.size + 1) := Lib.hid (by rw [hY]; exact ⟨(below_alR w6).out _, heap_alloc_new _ _, by simp⟩)
  have EY := Lib.hid hY
  clear hY
  have YX : Hid (Below X.heap.size X Y) := Lib.hid (S6.out.2.2.2.trans (YS.out.1.mono S6.out.2.2.2.size))
  go_wp2_with fail
  rw [← EY.out]
  clear EY
  have YD : Hid (Below Y.heap.size Y Y.drew) := Lib.hid (below_drawn Y 1)
  obtain ⟨⟨za0, za1, za2, za3, za4, za5, za6⟩, ⟨zb0, zb1, zb2, zb3, zb4, zb5, zb6⟩, -, -⟩ := KC.out Y.drew (YX.out.trans (YD.out.mono YX.out.size))
  have YC : Hid (∀ W, Below Y.heap.size Y W → W.cell? ⟨w6.heap.size, 5, none⟩ = some (.slice ya apn yc) ∧ W.heap[w6.heap.size]? = some (.cells #[.string ap, .string an, .slice xa aln xc, .int .i64 apr, .int .i64 adl, .slice ya apn yc, .int .i64 aver] 25 (0, 0)) ∧ OwnR kPt w5.heap.size W (.slice ya apn yc) rs ∧ Nst w5.heap.size W rs aps ∧ w5.heap.size ≤ W.heap.size) := Lib.hid fun W hb => by
    have r : W.heap[w6.heap.size]? = some (.cells #[.string ap, .string an, .slice xa aln xc, .int .i64 apr, .int .i64 adl, .slice ya apn yc, .int .i64 aver] 25 (0, 0)) := by rw [hb.block _ (by rw [YS.out.2.2]; omega)]; exact YS.out.2.1
    exact ⟨cell_of_row W _ 5 _ _ _ r, r, (S6.out.1.below YS.out.1).below hb, (S6.out.2.1.below YS.out.1).below hb, Nat.le_trans S6.out.2.2.1.size (Nat.le_trans YS.out.1.size hb.size)⟩
  have c5 := (YC.out Y.drew YD.out).1
  have L3 : Hid ((apn + bpn) * kPt.b ≤ 140737488355328) := Lib.hid (by show (apn + bpn) * 64 ≤ _; omega)
  have OWS : Hid (∀ W, Below X.heap.size X W → Calls Tryd.prog 11 #[.agg #[.string bp, .string bn, .slice bla bln blc, .int .i64 bpr, .int .i64 bdl, .slice bpa bpn bpc, .int .i64 bver]] W fun e w1 => ∃ V, e = .returned V ∧ ∃ xb xbc yb ybc, V = .agg #[.string bp, .string bn, .slice xb bln xbc, .int .i64 bpr, .int .i64 bdl, .slice yb bpn ybc, .int .i64 bver] ∧ (∃ rsb, OwnR kPt W.heap.size w1 (.slice yb bpn ybc) rsb ∧ Nst W.heap.size w1 rsb bps) ∧ Below W.heap.size W w1) := Lib.hid fun W hb => (OWB.out W hb).mono fun _ _ ⟨p1, p2, p3, p4, e, q⟩ => ⟨_, e, p1, p2, p3, p4, rfl, q⟩
  have fp := fun l c p c' W => field_parts bp bn l bln c bpr bdl p bpn c' bver W
  have K8 : Hid (∀ w7 w8, Below Y.heap.size Y w7 → w7.grownBy w8 (Value.slice ya apn yc).ownBlock → w8.heap[w6.heap.size]? = some (.cells #[.string ap, .string an, .slice xa aln xc, .int .i64 apr, .int .i64 adl, .slice ya apn yc, .int .i64 aver] 25 (0, 0))) := Lib.hid fun w7 w8 hb hg => by
    have q := YC.out w7 hb
    refine (hg.block _ (Array.getElem?_eq_some_iff.1 q.2.1).1 (fun e => ?_)).trans q.2.1
    obtain ⟨cs, mk, h⟩ := q.2.2.1.ty _ e.symm
    rw [q.2.1] at h
    simp only [Option.some.injEq, Obj.cells.injEq] at h
    exact absurd h.2.1 (by decide)
  go_region_law (first
    | (refine step_call (P := fun V w1 => ∃ xb xbc yb ybc, V = .agg #[.string bp, .string bn, .slice xb bln xbc, .int .i64 bpr, .int .i64 bdl, .slice yb bpn ybc, .int .i64 bver] ∧ (∃ rsb, OwnR kPt Y.drew.heap.size w1 (.slice yb bpn ybc) rsb ∧ Nst Y.drew.heap.size w1 rsb bps) ∧ Below Y.drew.heap.size Y.drew w1) (enters _ _ Tryd.func11 (by kernel_rfl) (by kernel_rfl)) rfl (.tmp 37) _ rfl rfl (OWS.out _ (YX.out.trans (YD.out.mono YX.out.size))) ?_; intro V w7 hid; obtain ⟨xb, xbc, yb, ybc, rfl, ⟨rsb, ho7, hn7⟩, hb7⟩ := hid.out; have k5 := (YC.out w7 (YD.out.trans (hb7.mono YD.out.size))).1; have S7 : Hid (OwnR kPt Y.drew.heap.size w7 (.slice yb bpn ybc) rsb ∧ Nst Y.drew.heap.size w7 rsb bps ∧ Below Y.heap.size Y w7) := Lib.hid ⟨ho7, hn7, YD.out.trans (hb7.mono YD.out.size)⟩; clear ho7 hn7 hb7 hid)
    | (refine step_rows okPt rfl (.tmp 36) (.tmp 39) rfl (B := w5.heap.size) (w := w7) (v := .slice ya apn yc) (u := .slice yb bpn ybc) (l := rs) (m := rsb) rfl (YC.out w7 S7.out.2.2).2.2.1 (YC.out w7 S7.out.2.2).2.2.2.2 rfl (S7.out.1.row okPt) (by rw [(YC.out w7 S7.out.2.2).2.2.2.1.1, S7.out.2.1.1, ← AL.out.2, ← BL.out.2]; exact L3.out) ?_; intro v8 w8 h8 k8; have hr8 := K8.out w7 w8 S7.out.2.2 k8; have f8 := frozen_row hr8 5; have c8 : w8.cell? ⟨w6.heap.size, 5, none⟩ = some (.slice ya apn yc) := cell_of_row w8 _ 5 _ _ _ hr8; obtain ⟨a8, d8, e8⟩ := h8.slice; have el8 : (rs ++ rsb).length = apn + bpn := (by rw [List.length_append, (YC.out w7 S7.out.2.2).2.2.2.1.1, S7.out.2.1.1, ← AL.out.2, ← BL.out.2]); rw [el8] at e8; subst e8; have S8 : Hid (OwnR kPt w5.heap.size w8 (.slice a8 (apn + bpn) d8) (rs ++ rsb) ∧ w7.grownBy w8 (Value.slice ya apn yc).ownBlock) := Lib.hid ⟨h8, k8⟩; clear h8 k8 el8 hr8))
  all_goals as_aux_lemma =>
    have S9 : Hid (Bx w5.heap.size w6.heap.size #[.string ap, .string an, .slice xa aln xc, .int .i64 apr, .int .i64 adl, .slice a8 (apn + bpn) d8, .int .i64 aver] (.slice a8 (apn + bpn) d8) (rs ++ rsb) (aps ++ bps) (w8.setCell ⟨w6.heap.size, 5, none⟩ (.slice a8 (apn + bpn) d8)) ∧ Below w5.heap.size w5 (w8.setCell ⟨w6.heap.size, 5, none⟩ (.slice a8 (apn + bpn) d8))) := Lib.hid (by
      have q := YC.out w7 S7.out.2.2
      have bx : Bx w5.heap.size w6.heap.size #[.string ap, .string an, .slice xa aln xc, .int .i64 apr, .int .i64 adl, .slice ya apn yc, .int .i64 aver] (.slice ya apn yc) rs aps w7 := ⟨q.2.1, q.2.2.1, q.2.2.2.1, q.2.2.2.2⟩
      have b57 : Below w5.heap.size w5 w7 := (S6.out.2.2.1.trans (YS.out.1.mono S6.out.2.2.1.size)).trans (S7.out.2.2.mono (Nat.le_trans S6.out.2.2.1.size YS.out.1.size))
      have r := bx.put S8.out.2 (S7.out.2.1.monoB (Nat.le_trans S6.out.2.2.1.size (Nat.le_trans YS.out.1.size YD.out.size))) S8.out.1 S6.out.2.2.1.size
      exact ⟨r.1, b57.trans (r.2.mono (Nat.le_refl _))⟩)
    obtain ⟨W9, hW9⟩ : ∃ W, W = w8.setCell ⟨w6.heap.size, 5, none⟩ (.slice a8 (apn + bpn) d8) := ⟨_, rfl⟩
    rw [← hW9] at S9 ⊢
    clear hW9 f8 c8 k5 c5 S8 S7 za0 za1 za2 za3 za4 za5 za6 zb0 zb1 zb2 zb3 zb4 zb5 zb6
    have L9 : Hid (((rs ++ rsb).length + 1) * kPt.b ≤ 140737488355328) := Lib.hid (by rw [S9.out.1.n.1, List.length_append, ← AL.out.2, ← BL.out.2]; show (apn + bpn + 1) * 64 ≤ _; omega)
    have c9 : W9.cell? ⟨w6.heap.size, 5, none⟩ = some (.slice a8 (apn + bpn) d8) := cell_of_row W9 _ 5 _ _ _ S9.out.1.o
    have M1 : True := trivial
    go_wp2_with (at_builtin; clear M1; refine app_rowB okPt (gg := W9.heap.size) rfl _ _ rfl rfl S9.out.1.p S9.out.1.s nonP (by simp) rfl rfl L9.out ?_; intro v10 w10 h10 k10
                 have hr10 := S9.out.1.grow k10
                 have f10 := frozen_row hr10 5
                 have c10 : w10.cell? ⟨w6.heap.size, 5, none⟩ = some (.slice a8 (apn + bpn) d8) := cell_of_row w10 _ 5 _ _ _ hr10
                 obtain ⟨a10, d10, e10⟩ := h10.slice
                 have el10 : (rs ++ rsb ++ [nonP]).length = apn + bpn + 1 := by rw [List.length_append, S9.out.1.n.1, List.length_append, ← AL.out.2, ← BL.out.2]; rfl
                 rw [el10] at e10
                 subst e10
                 have S11 : Hid (Bx w5.heap.size w6.heap.size #[.string ap, .string an, .slice xa aln xc, .int .i64 apr, .int .i64 adl, .slice a10 (apn + bpn + 1) d10, .int .i64 aver] (.slice a10 (apn + bpn + 1) d10) (rs ++ rsb ++ [nonP]) (aps ++ bps ++ [noneP]) (w10.setCell ⟨w6.heap.size, 5, none⟩ (.slice a10 (apn + bpn + 1) d10)) ∧ Below w5.heap.size w5 (w10.setCell ⟨w6.heap.size, 5, none⟩ (.slice a10 (apn + bpn + 1) d10))) := Lib.hid (by
                   have r := S9.out.1.put k10 (nst_none _ _) h10 S6.out.2.2.1.size
                   exact ⟨r.1, S9.out.2.trans r.2⟩)
                 have B11 : Hid (Below X.heap.size X (w10.setCell ⟨w6.heap.size, 5, none⟩ (.slice a10 (apn + bpn + 1) d10))) := Lib.hid (X5.out.1.trans (S11.out.2.mono X5.out.1.size))
                 obtain ⟨⟨za0, za1, za2, za3, za4, za5, za6⟩, ⟨zb0, zb1, zb2, zb3, zb4, zb5, zb6⟩, -, -⟩ := KC.out _ B11.out
                 clear h10 k10 el10 hr10)
    obtain ⟨W11, hW11⟩ : ∃ W, W = w10.setCell ⟨w6.heap.size, 5, none⟩ (.slice a10 (apn + bpn + 1) d10) := ⟨_, rfl⟩
    rw [← hW11] at S11 B11 ⊢
    clear za0 za1 za2 za3 za4 za5 za6 zb0 zb1 zb2 zb3 zb4 zb5 zb6
    clear hW11 f10 c10 c9 S9
    refine (OWB.out W11 B11.out).mono ?_
    rintro e w12 ⟨xda, xdc, yd, ydc, rfl, ⟨rsd, ho, hn⟩, hb2⟩
    have S12 : Hid (OwnR kPt W11.heap.size w12 (.slice yd bpn ydc) rsd ∧ Nst W11.heap.size w12 rsd bps ∧ Below W11.heap.size W11 w12 ∧ Below X.heap.size X w12) := Lib.hid ⟨ho, hn, hb2, B11.out.trans (hb2.mono B11.out.size)⟩
    clear ho hn hb2
    obtain ⟨Z, hZ⟩ : ∃ Z, Z = w12.alloc (.cells #[.string bp, .string bn, .slice xda bln xdc, .int .i64 bpr, .int .i64 bdl, .slice yd bpn ydc, .int .i64 bver] 25) := ⟨_, rfl⟩
    have ZS : Hid (Below w12.heap.size w12 Z ∧ Z.heap[w12.heap.size]? = some (.cells #[.string bp, .string bn, .slice xda bln xdc, .int .i64 bpr, .int .i64 bdl, .slice yd bpn ydc, .int .i64 bver] 25 (0, 0)) ∧ Z.heap.size = w12.heap.size + 1) := Lib.hid (by rw [hZ]; exact ⟨(below_alR w12).out _, heap_alloc_new _ _, by simp⟩)
    have EZ := Lib.hid hZ
    clear hZ
    have ZX : Hid (Below X.heap.size X Z) := Lib.hid (S12.out.2.2.2.trans (ZS.out.1.mono S12.out.2.2.2.size))
    go_wp2_with fail
    rw [← EZ.out]
    clear EZ
    have ZD : Hid (Below Z.heap.size Z Z.drew) := Lib.hid (below_drawn Z 1)
    obtain ⟨⟨za0, za1, za2, za3, za4, za5, za6⟩, ⟨zb0, zb1, zb2, zb3, zb4, zb5, zb6⟩, -, -⟩ := KC.out Z.drew (ZX.out.trans (ZD.out.mono ZX.out.size))
    have ZB : Hid (∀ W, Below Z.heap.size Z W → Bx W11.heap.size w12.heap.size #[.string bp, .string bn, .slice xda bln xdc, .int .i64 bpr, .int .i64 bdl, .slice yd bpn ydc, .int .i64 bver] (.slice yd bpn ydc) rsd bps W) := Lib.hid fun W hb =>
      Bx.below ⟨ZS.out.2.1, S12.out.1.below ZS.out.1, S12.out.2.1.below ZS.out.1, Nat.le_trans S12.out.2.2.1.size ZS.out.1.size⟩ hb
    have c5 : Z.drew.cell? ⟨w12.heap.size, 5, none⟩ = some (.slice yd bpn ydc) := cell_of_row _ _ 5 _ _ _ (ZB.out Z.drew ZD.out).o
    have L4 : Hid ((bpn + apn) * kPt.b ≤ 140737488355328) := Lib.hid (by show (bpn + apn) * 64 ≤ _; omega)
    have OWT : Hid (∀ W, Below X.heap.size X W → Calls Tryd.prog 11 #[.agg #[.string ap, .string an, .slice ala aln alc, .int .i64 apr, .int .i64 adl, .slice apa apn apc, .int .i64 aver]] W fun e w1 => ∃ V, e = .returned V ∧ ∃ xb xbc yb ybc, V = .agg #[.string ap, .string an, .slice xb aln xbc, .int .i64 apr, .int .i64 adl, .slice yb apn ybc, .int .i64 aver] ∧ (∃ rsb, OwnR kPt W.heap.size w1 (.slice yb apn ybc) rsb ∧ Nst W.heap.size w1 rsb aps) ∧ Below W.heap.size W w1) := Lib.hid fun W hb => (OWA.out W hb).mono fun _ _ ⟨p1, p2, p3, p4, e, q⟩ => ⟨_, e, p1, p2, p3, p4, rfl, q⟩
    have fq := fun l c p c' W => field_parts ap an l aln c apr adl p apn c' aver W
    clear fp OWS L3 K8
    go_region_law (first
      | (refine step_call (P := fun V w1 => ∃ xb xbc yb ybc, V = .agg #[.string ap, .string an, .slice xb aln xbc, .int .i64 apr, .int .i64 adl, .slice yb apn ybc, .int .i64 aver] ∧ (∃ rsb, OwnR kPt Z.drew.heap.size w1 (.slice yb apn ybc) rsb ∧ Nst Z.drew.heap.size w1 rsb aps) ∧ Below Z.drew.heap.size Z.drew w1) (enters _ _ Tryd.func11 (by kernel_rfl) (by kernel_rfl)) rfl (.tmp 52) _ rfl rfl (OWT.out _ (ZX.out.trans (ZD.out.mono ZX.out.size))) ?_; intro V w13 hid; obtain ⟨xf, xfc, yf, yfc, rfl, ⟨rsf, ho7, hn7⟩, hb7⟩ := hid.out; have S13 : Hid (OwnR kPt Z.drew.heap.size w13 (.slice yf apn yfc) rsf ∧ Nst Z.drew.heap.size w13 rsf aps ∧ Below Z.heap.size Z w13) := Lib.hid ⟨ho7, hn7, ZD.out.trans (hb7.mono ZD.out.size)⟩; have k5 : w13.cell? ⟨w12.heap.size, 5, none⟩ = some (.slice yd bpn ydc) := cell_of_row _ _ 5 _ _ _ (ZB.out w13 S13.out.2.2).o; clear ho7 hn7 hb7 hid)
      | (refine step_rows okPt rfl (.tmp 51) (.tmp 54) rfl (B := W11.heap.size) (w := w13) (v := .slice yd bpn ydc) (u := .slice yf apn yfc) (l := rsd) (m := rsf) rfl (ZB.out w13 S13.out.2.2).p (ZB.out w13 S13.out.2.2).s rfl (S13.out.1.row okPt) (by rw [(ZB.out w13 S13.out.2.2).n.1, S13.out.2.1.1, ← AL.out.2, ← BL.out.2]; exact L4.out) ?_; intro v14 w14 h14 k14; have hr14 := (ZB.out w13 S13.out.2.2).grow k14; have f14 := frozen_row hr14 5; have c14 : w14.cell? ⟨w12.heap.size, 5, none⟩ = some (.slice yd bpn ydc) := cell_of_row w14 _ 5 _ _ _ hr14; obtain ⟨a14, d14, e14⟩ := h14.slice; have el14 : (rsd ++ rsf).length = bpn + apn := (by rw [List.length_append, (ZB.out w13 S13.out.2.2).n.1, S13.out.2.1.1, ← AL.out.2, ← BL.out.2]); rw [el14] at e14; subst e14; have S14 : Hid (OwnR kPt W11.heap.size w14 (.slice a14 (bpn + apn) d14) (rsd ++ rsf) ∧ w13.grownBy w14 (Value.slice yd bpn ydc).ownBlock) := Lib.hid ⟨h14, k14⟩; clear h14 k14 el14 hr14))
    all_goals as_aux_lemma =>
      have S15 : Hid (Bx W11.heap.size w12.heap.size #[.string bp, .string bn, .slice xda bln xdc, .int .i64 bpr, .int .i64 bdl, .slice a14 (bpn + apn) d14, .int .i64 bver] (.slice a14 (bpn + apn) d14) (rsd ++ rsf) (bps ++ aps) (w14.setCell ⟨w12.heap.size, 5, none⟩ (.slice a14 (bpn + apn) d14)) ∧ Below W11.heap.size W11 (w14.setCell ⟨w12.heap.size, 5, none⟩ (.slice a14 (bpn + apn) d14))) := Lib.hid (by
        have b57 : Below W11.heap.size W11 w13 := (S12.out.2.2.1.trans (ZS.out.1.mono S12.out.2.2.1.size)).trans (S13.out.2.2.mono (Nat.le_trans S12.out.2.2.1.size ZS.out.1.size))
        have r := (ZB.out w13 S13.out.2.2).put S14.out.2 (S13.out.2.1.monoB (Nat.le_trans S12.out.2.2.1.size (Nat.le_trans ZS.out.1.size ZD.out.size))) S14.out.1 S12.out.2.2.1.size
        exact ⟨r.1, b57.trans r.2⟩)
      obtain ⟨W15, hW15⟩ : ∃ W, W = w14.setCell ⟨w12.heap.size, 5, none⟩ (.slice a14 (bpn + apn) d14) := ⟨_, rfl⟩
      rw [← hW15] at S15 ⊢
      clear za0 za1 za2 za3 za4 za5 za6 zb0 zb1 zb2 zb3 zb4 zb5 zb6
      clear hW15 f14 c14 k5 c5 S14 S13 fq OWT L4
      have C15 : Hid (Bx w5.heap.size w6.heap.size #[.string ap, .string an, .slice xa aln xc, .int .i64 apr, .int .i64 adl, .slice a10 (apn + bpn + 1) d10, .int .i64 aver] (.slice a10 (apn + bpn + 1) d10) (rs ++ rsb ++ [nonP]) (aps ++ bps ++ [noneP]) W15) := Lib.hid (S11.out.1.below S15.out.2)
      have cc0 : W15.cell? ⟨w6.heap.size, 0, none⟩ = some (.string ap) := cell_of_row W15 _ 0 _ _ _ C15.out.o
      have cc1 : W15.cell? ⟨w6.heap.size, 1, none⟩ = some (.string an) := cell_of_row W15 _ 1 _ _ _ C15.out.o
      have cc2 : W15.cell? ⟨w6.heap.size, 2, none⟩ = some (.slice xa aln xc) := cell_of_row W15 _ 2 _ _ _ C15.out.o
      have cc3 : W15.cell? ⟨w6.heap.size, 3, none⟩ = some (.int .i64 apr) := cell_of_row W15 _ 3 _ _ _ C15.out.o
      have cc4 : W15.cell? ⟨w6.heap.size, 4, none⟩ = some (.int .i64 adl) := cell_of_row W15 _ 4 _ _ _ C15.out.o
      have cc5 : W15.cell? ⟨w6.heap.size, 5, none⟩ = some (.slice a10 (apn + bpn + 1) d10) := cell_of_row W15 _ 5 _ _ _ C15.out.o
      have cc6 : W15.cell? ⟨w6.heap.size, 6, none⟩ = some (.int .i64 aver) := cell_of_row W15 _ 6 _ _ _ C15.out.o
      go_wp2_with fail
      refine (USC.out W15 a10 d10 (C15.out.n.pts C15.out.p) xa xc).mono ?_
      rintro e w16 ⟨wa, wn, wc, rfl, hw, hb16⟩
      have R16 : Hid (OwnR kAm W15.heap.size w16 (.slice wa wn wc) lJ ∧ Below W15.heap.size W15 w16 ∧ Bx W11.heap.size w12.heap.size #[.string bp, .string bn, .slice xda bln xdc, .int .i64 bpr, .int .i64 bdl, .slice a14 (bpn + apn) d14, .int .i64 bver] (.slice a14 (bpn + apn) d14) (rsd ++ rsf) (bps ++ aps) w16) := Lib.hid ⟨hw, hb16, S15.out.1.below hb16⟩
      clear hw hb16 cc0 cc1 cc2 cc3 cc4 cc5 cc6
      have cc0 : w16.cell? ⟨w12.heap.size, 0, none⟩ = some (.string bp) := cell_of_row w16 _ 0 _ _ _ R16.out.2.2.o
      have cc1 : w16.cell? ⟨w12.heap.size, 1, none⟩ = some (.string bn) := cell_of_row w16 _ 1 _ _ _ R16.out.2.2.o
      have cc2 : w16.cell? ⟨w12.heap.size, 2, none⟩ = some (.slice xda bln xdc) := cell_of_row w16 _ 2 _ _ _ R16.out.2.2.o
      have cc3 : w16.cell? ⟨w12.heap.size, 3, none⟩ = some (.int .i64 bpr) := cell_of_row w16 _ 3 _ _ _ R16.out.2.2.o
      have cc4 : w16.cell? ⟨w12.heap.size, 4, none⟩ = some (.int .i64 bdl) := cell_of_row w16 _ 4 _ _ _ R16.out.2.2.o
      have cc5 : w16.cell? ⟨w12.heap.size, 5, none⟩ = some (.slice a14 (bpn + apn) d14) := cell_of_row w16 _ 5 _ _ _ R16.out.2.2.o
      have cc6 : w16.cell? ⟨w12.heap.size, 6, none⟩ = some (.int .i64 bver) := cell_of_row w16 _ 6 _ _ _ R16.out.2.2.o
      go_wp2_with fail
      refine (USD.out w16 a14 d14 (R16.out.2.2.n.pts R16.out.2.2.p) xda xdc).mono ?_
      rintro e w17 ⟨xva, xvn, xvc, rfl, hx, hb17⟩
      clear cc0 cc1 cc2 cc3 cc4 cc5 cc6
      have SM := Lib.hid (sameAmounts_yes _ _ lJ w17 ((R16.out.1.below hb17).row okAm) (hx.row okAm))
      have B17 : Hid (Below W15.heap.size W15 w17) := Lib.hid (R16.out.2.1.trans (hb17.mono R16.out.2.1.size))
      have RW : Hid (Row kAm w17 (.slice wa wn wc) lJ) := Lib.hid ((R16.out.1.below hb17).row okAm)
      clear hx hb17
      have gj : (eJ == eJ) = true := by simp
      go_wp2_with fail
      refine SM.out.mono ?_
      rintro e w18 ⟨rfl, hb18⟩
      have B18 : Hid (Below W15.heap.size W15 w18) := Lib.hid (B17.out.trans (hb18.mono B17.out.size))
      have RR : Hid (Row kAm w18 (.slice wa wn wc) lJ ∧ Row kAm w18 (.slice ua un uc) la ∧ Row kAm w18 (.slice va vn vc) lb ∧ Bx w5.heap.size w6.heap.size #[.string ap, .string an, .slice xa aln xc, .int .i64 apr, .int .i64 adl, .slice a10 (apn + bpn + 1) d10, .int .i64 aver] (.slice a10 (apn + bpn + 1) d10) (rs ++ rsb ++ [nonP]) (aps ++ bps ++ [noneP]) w18 ∧ Below w.heap.size w w18) := Lib.hid (by
        have bq : Below w5.heap.size w5 w18 := (S11.out.2.trans (S15.out.2.mono S11.out.2.size)).trans (B18.out.mono (Nat.le_trans S11.out.2.size S15.out.2.size))
        have bx := X5.out.1.trans (bq.mono X5.out.1.size)
        exact ⟨RW.out.below hb18, X5.out.2.1.below bq, X5.out.2.2.below bq, C15.out.below B18.out, (KC.out w18 bx).2.2.1⟩)
      clear SM hb18 gj
      by_cases hea : ea = 0
      · by_cases heb : eb = 0
        · have G0 := Lib.hid (join_good (xs := aps) (ys := bps) (by rw [← EA.out.1]; exact hea) (by rw [← EB.out.1]; exact heb))
          by_cases hJ : eJ = 0
          · skip
            have GA : Hid (onegB (aps ++ bps ++ [noneP]) = false ∧ ¬ Ov (obEs (aps ++ bps ++ [noneP])) ∧ lJ = outL (obEs (aps ++ bps ++ [noneP])) ∧ la = outL (obEs aps) ∧ lb = outL (obEs bps)) := Lib.hid (by
              rcases uses_cases (aps ++ bps ++ [noneP]) with ⟨_, q1, q2, q3⟩ | ⟨e, _⟩ | ⟨e, _⟩
              · rcases uses_cases aps with ⟨_, _, _, r3⟩ | ⟨e, _⟩ | ⟨e, _⟩
                · rcases uses_cases bps with ⟨_, _, _, t3⟩ | ⟨e, _⟩ | ⟨e, _⟩
                  · exact ⟨q1, q2, EJ.out.2.trans q3, EA.out.2.trans r3, EB.out.2.trans t3⟩
                  · rw [← EB.out.1] at e; omega
                  · rw [← EB.out.1] at e; omega
                · rw [← EA.out.1] at e; omega
                · rw [← EA.out.1] at e; omega
              · rw [← EJ.out.1] at e; omega
              · rw [← EJ.out.1] at e; omega)
            rw [hea, heb, hJ]
            clear hea heb hJ G0
            have NW : Hid (wn = (nmsOf (obEs (aps ++ bps ++ [noneP]))).length) := Lib.hid (by
              obtain ⟨_, _, e, _⟩ := RR.out.1.len
              simp only [Value.slice.injEq] at e
              rw [e.2.1, GA.out.2.2.1, out_len])
            have bwn : wn ≤ 4000000 := by rw [NW.out]; exact Nat.le_trans (nms_len _) PJ.out.1.n
            go_wp2_with fail
            go_loopg [16] wn (fun g si wr => ∃ (i : Nat), i ≤ wn ∧ g = wn - i ∧ si = .int .i64 i ∧ Below w18.heap.size w18 wr)
            case atStart => exact ⟨0, Nat.zero_le _, rfl, rfl, Below.refl _ _⟩
            case round =>
              obtain ⟨i, hi, hg, rfl, hb⟩ := hrel
              have RI : Hid (gk = wn - i ∧ Below w18.heap.size w18 wr) := Lib.hid ⟨hg, hb⟩
              clear hg hb
              by_cases hlt : i < wn
              · have hlt' : (i : Int) < (wn : Int) := by omega
                have IL : Hid (i < (nmsOf (obEs (aps ++ bps ++ [noneP]))).length) := Lib.hid (by rw [← NW.out]; exact hlt)
                obtain ⟨b, off, ewa, -⟩ := (RR.out.1.below RI.out.2).at i (by rw [GA.out.2.2.1, out_len]; exact IL.out)
                subst ewa
                have RC : Hid (∀ k, k < (nmsOf (obEs (aps ++ bps ++ [noneP]))).length → ∀ W, Below w18.heap.size w18 W → W.cell? ⟨b, off + k * 2, none⟩ = some (.string ⟨((nmsOf (obEs (aps ++ bps ++ [noneP]))).getD k []).toArray⟩) ∧ W.cell? ⟨b, off + k * 2 + 1, none⟩ = some (.int .i64 (Tot (obEs (aps ++ bps ++ [noneP])) ((nmsOf (obEs (aps ++ bps ++ [noneP]))).getD k [])))) := Lib.hid fun k hk W hb => by
                  have q := RR.out.1.below hb
                  rw [GA.out.2.2.1] at q
                  obtain ⟨b', off', e', hcc⟩ := q.at k (by rw [out_len]; exact hk)
                  simp only [Option.some.injEq, Addr.mk.injEq, and_true] at e'
                  obtain ⟨rfl, rfl⟩ := e'
                  rw [out_at _ _ hk] at hcc
                  exact ⟨hcc 0 _ rfl, hcc 1 _ rfl⟩
                obtain ⟨nm, hnm⟩ : ∃ nm : ByteArray, nm = ⟨((nmsOf (obEs (aps ++ bps ++ [noneP]))).getD i []).toArray⟩ := ⟨_, rfl⟩
                obtain ⟨xw, hxw⟩ : ∃ x, x = Tot (obEs (aps ++ bps ++ [noneP])) ((nmsOf (obEs (aps ++ bps ++ [noneP]))).getD i []) := ⟨_, rfl⟩
                obtain ⟨xA, hxA⟩ : ∃ x, x = vOf la nm := ⟨_, rfl⟩
                obtain ⟨xB, hxB⟩ : ∃ x, x = vOf lb nm := ⟨_, rfl⟩
                have HX : Hid (nm = ⟨((nmsOf (obEs (aps ++ bps ++ [noneP]))).getD i []).toArray⟩ ∧ xw = Tot (obEs (aps ++ bps ++ [noneP])) ((nmsOf (obEs (aps ++ bps ++ [noneP]))).getD i []) ∧ xA = Tot (obEs aps) ((nmsOf (obEs (aps ++ bps ++ [noneP]))).getD i []) ∧ xB = Tot (obEs bps) ((nmsOf (obEs (aps ++ bps ++ [noneP]))).getD i [])) := Lib.hid (by
                  refine ⟨hnm, hxw, ?_, ?_⟩
                  · rw [hxA, GA.out.2.2.2.1, vOf_out, hnm]
                  · rw [hxB, GA.out.2.2.2.2, vOf_out, hnm])
                have VA : Hid (∀ W, Below w18.heap.size w18 W → Calls Tryd.prog 13 #[.slice ua un uc, .string nm] W fun e w' => e = .returned (.int .i64 xA) ∧ Below w18.heap.size w18 w') := Lib.hid fun W hb => by
                  rw [hxA]; exact (value_any _ la nm W (RR.out.2.1.below hb)).mono fun _ _ ⟨e, q⟩ => ⟨e, hb.trans (q.mono hb.size)⟩
                have VB : Hid (∀ W, Below w18.heap.size w18 W → Calls Tryd.prog 13 #[.slice va vn vc, .string nm] W fun e w' => e = .returned (.int .i64 xB) ∧ Below w18.heap.size w18 w') := Lib.hid fun W hb => by
                  rw [hxB]; exact (value_any _ lb nm W (RR.out.2.2.1.below hb)).mono fun _ _ ⟨e, q⟩ => ⟨e, hb.trans (q.mono hb.size)⟩
                have NC : Hid (∀ W, Below w18.heap.size w18 W → W.cell? ⟨b, off + i * 2, none⟩ = some (.string nm) ∧ W.cell? ⟨b, off + i * 2 + 1, none⟩ = some (.int .i64 xw)) := Lib.hid fun W hb => by rw [hnm, hxw]; exact RC.out i IL.out W hb
                have VQA : Hid (∀ d os, Calls Tryd.prog 13 #[.slice ua un uc, .string nm] (grow (redrawn wr d) os) fun e w'' => e = .returned (.int .i64 xA) ∧ ∃ p : Regrown, w'' = grow (redrawn wr p.d) p.os) := Lib.hid fun d os => by
                  rw [hxA]; exact Calls.regrown_of (value_any _ la nm _ (RR.out.2.1.below (RI.out.2.trans ((below_regrown wr d os).mono RI.out.2.size))))
                have VQB : Hid (∀ d os, Calls Tryd.prog 13 #[.slice va vn vc, .string nm] (grow (redrawn wr d) os) fun e w'' => e = .returned (.int .i64 xB) ∧ ∃ p : Regrown, w'' = grow (redrawn wr p.d) p.os) := Lib.hid fun d os => by
                  rw [hxB]; exact Calls.regrown_of (value_any _ lb nm _ (RR.out.2.2.1.below (RI.out.2.trans ((below_regrown wr d os).mono RI.out.2.size))))
                clear hnm hxw hxA hxB
                by_cases hi0 : i = 0
                · subst hi0
                  have e0 : ((0 : Nat) : Int) = 0 := rfl
                  rw [e0]
                  clear e0
                  rw [Nat.zero_mul, Nat.add_zero] at NC
                  obtain ⟨n0, n1⟩ := NC.out wr RI.out.2
                  by_cases hc : nm = ⟨#[99, 111, 117, 110, 116]⟩
                  · have ge : (nm.toList == [99, 111, 117, 110, 116]) = true := by have q := teq_yes hc; rw [list_of_bytes ⟨#[99, 111, 117, 110, 116]⟩] at q; exact q
                    have hv : xw = 1000 ∧ xA = 1000 ∧ xB = 1000 := by
                      have q : (nmsOf (obEs (aps ++ bps ++ [noneP]))).getD 0 [] = tCount.data.toList := by
                        have q1 := HX.out.1.symm.trans hc
                        exact congrArg (fun t : ByteArray => t.data.toList) q1
                      have h := HX.out.2
                      rw [q, tot_count, tot_count, tot_count] at h
                      exact h
                    obtain ⟨hv1, hv2, hv3⟩ := hv
                    rw [hv1] at n1
                    rw [hv2] at VA
                    rw [hv3] at VB
                    clear hc hv1 hv2 hv3
                    have M1 : True := trivial
                    clear VQA VQB
                    go_wp2_with (first
                      | (go_at_call 13; clear M1; refine (VA.out _ RI.out.2).mono ?_; rintro e w20 ⟨rfl, hb20⟩)
                      | (go_at_call 13; refine (VB.out _ hb20).mono ?_; rintro e w21 ⟨rfl, hb21⟩))
                    have HB21 := Lib.hid hb21
                    clear hb20 hb21 n0 n1
                    go_roundg (wn - (0 + 1))
                    case measure => have := RI.out.1; omega
                    case rel => exact ⟨0 + 1, by omega, rfl, by go_num, HB21.out⟩
                  · have ge : (nm.toList == [99, 111, 117, 110, 116]) = false := by have q := teq_no hc; rw [list_of_bytes ⟨#[99, 111, 117, 110, 116]⟩] at q; exact q
                    have hv : xw = xA + xB ∧ 0 ≤ xA ∧ 0 ≤ xB ∧ xA + xB ≤ 9223372036854775807 := by
                      have ne : tCount.data.toList ≠ (nmsOf (obEs (aps ++ bps ++ [noneP]))).getD 0 [] := fun q => hc (by rw [HX.out.1, ← q]; rfl)
                      have h := HX.out.2
                      have t := tot_join aps bps _ ne
                      have o : Tot (obEs (aps ++ bps ++ [noneP])) ((nmsOf (obEs (aps ++ bps ++ [noneP]))).getD 0 []) ≤ 9223372036854775807 := Int.not_lt.1 (fun c => GA.out.2.1 ⟨_, c⟩)
                      have q := GA.out.1
                      rw [oneg_none, oneg_app, Bool.or_eq_false_iff] at q
                      have p1 := Tot_pos (ob_pos (neg_pos q.1)) ((nmsOf (obEs (aps ++ bps ++ [noneP]))).getD 0 [])
                      have p2 := Tot_pos (ob_pos (neg_pos q.2)) ((nmsOf (obEs (aps ++ bps ++ [noneP]))).getD 0 [])
                      rw [← h.1, ← h.2.1, ← h.2.2] at t
                      rw [← h.1] at o
                      rw [← h.2.1] at p1
                      rw [← h.2.2] at p2
                      omega
                    obtain ⟨hv1, hv2, hv3, hv4⟩ := hv
                    rw [hv1] at n1 NC
                    clear hc hv1
                    have wr0 : IntKind.i64.wrap (xA + xB) = xA + xB := wrap_in (by omega) hv4
                    have gs : (xA + xB == xA + xB) = true := by simp
                    have s1 := reg n1
                    clear hv2 hv3 hv4
                    go_wp2_with fail
                    refine wp_region_quiet_below (by kernel_rfl) (by kernel_rfl) ?_
                    repeat (go_big_quiet_step (first | with_reducible exact VQA.out _ _ | with_reducible exact VQB.out _ _))
                    refine wpQuiet_nil ?_
                    rintro _ ⟨⟨dq, osq⟩, hw''⟩
                    subst hw''
                    have HB21 : Hid (Below w18.heap.size w18 (grow (redrawn wr dq) osq)) := Lib.hid (RI.out.2.trans ((below_regrown wr dq osq).mono RI.out.2.size))
                    obtain ⟨W21, hW21⟩ : ∃ W, W = grow (redrawn wr dq) osq := ⟨_, rfl⟩
                    rw [← hW21] at HB21 ⊢
                    clear hW21 n0 n1 s1
                    go_wp2_with fail
                    go_roundg (wn - (0 + 1))
                    case measure => have := RI.out.1; omega
                    case rel => exact ⟨0 + 1, by omega, rfl, by go_num, HB21.out⟩
                · obtain ⟨k, rfl⟩ : ∃ k, i = k + 1 := ⟨i - 1, by omega⟩
                  obtain ⟨n0, n1⟩ := NC.out wr RI.out.2
                  obtain ⟨m0, -⟩ := RC.out k (Nat.lt_of_succ_lt IL.out) wr RI.out.2
                  obtain ⟨pm, hpm⟩ : ∃ pm : ByteArray, pm = ⟨((nmsOf (obEs (aps ++ bps ++ [noneP]))).getD k []).toArray⟩ := ⟨_, rfl⟩
                  rw [← hpm] at m0
                  have e1 : nm.toList = (nmsOf (obEs (aps ++ bps ++ [noneP]))).getD (k + 1) [] := by rw [list_of_bytes, HX.out.1]
                  have e2 : pm.toList = (nmsOf (obEs (aps ++ bps ++ [noneP]))).getD k [] := by rw [list_of_bytes, hpm]
                  have hr := out_rise (obEs (aps ++ bps ++ [noneP])) k IL.out
                  have gl : Op.bytesLess nm.toList pm.toList = false := by
                    rw [e1, e2, Go.Proofs.bytesLess_eq]
                    exact decide_eq_false (fun c => List.lt_irrefl _ (List.lt_trans hr c))
                  have gq : (nm.toList == pm.toList) = false := by
                    rw [beq_eq_false_iff_ne, e1, e2]
                    exact fun c => List.lt_irrefl _ (by rw [c] at hr; exact hr)
                  clear hpm e1 e2 hr hi0
                  by_cases hc : nm = ⟨#[99, 111, 117, 110, 116]⟩
                  · have ge : (nm.toList == [99, 111, 117, 110, 116]) = true := by have q := teq_yes hc; rw [list_of_bytes ⟨#[99, 111, 117, 110, 116]⟩] at q; exact q
                    have hv : xw = 1000 ∧ xA = 1000 ∧ xB = 1000 := by
                      have q : (nmsOf (obEs (aps ++ bps ++ [noneP]))).getD (k + 1) [] = tCount.data.toList := by
                        have q1 := HX.out.1.symm.trans hc
                        exact congrArg (fun t : ByteArray => t.data.toList) q1
                      have h := HX.out.2
                      rw [q, tot_count, tot_count, tot_count] at h
                      exact h
                    obtain ⟨hv1, hv2, hv3⟩ := hv
                    rw [hv1] at n1
                    rw [hv2] at VA
                    rw [hv3] at VB
                    clear hc hv1 hv2 hv3
                    have M1 : True := trivial
                    clear VQA VQB
                    go_wp2_with (first
                      | (go_at_call 13; clear M1; refine (VA.out _ RI.out.2).mono ?_; rintro e w20 ⟨rfl, hb20⟩)
                      | (go_at_call 13; refine (VB.out _ hb20).mono ?_; rintro e w21 ⟨rfl, hb21⟩))
                    have HB21 := Lib.hid hb21
                    clear hb20 hb21 n0 n1
                    go_roundg (wn - ((k + 1) + 1))
                    case measure => have := RI.out.1; omega
                    case rel => exact ⟨(k + 1) + 1, by omega, rfl, by go_num, HB21.out⟩
                  · have ge : (nm.toList == [99, 111, 117, 110, 116]) = false := by have q := teq_no hc; rw [list_of_bytes ⟨#[99, 111, 117, 110, 116]⟩] at q; exact q
                    have hv : xw = xA + xB ∧ 0 ≤ xA ∧ 0 ≤ xB ∧ xA + xB ≤ 9223372036854775807 := by
                      have ne : tCount.data.toList ≠ (nmsOf (obEs (aps ++ bps ++ [noneP]))).getD (k + 1) [] := fun q => hc (by rw [HX.out.1, ← q]; rfl)
                      have h := HX.out.2
                      have t := tot_join aps bps _ ne
                      have o : Tot (obEs (aps ++ bps ++ [noneP])) ((nmsOf (obEs (aps ++ bps ++ [noneP]))).getD (k + 1) []) ≤ 9223372036854775807 := Int.not_lt.1 (fun c => GA.out.2.1 ⟨_, c⟩)
                      have q := GA.out.1
                      rw [oneg_none, oneg_app, Bool.or_eq_false_iff] at q
                      have p1 := Tot_pos (ob_pos (neg_pos q.1)) ((nmsOf (obEs (aps ++ bps ++ [noneP]))).getD (k + 1) [])
                      have p2 := Tot_pos (ob_pos (neg_pos q.2)) ((nmsOf (obEs (aps ++ bps ++ [noneP]))).getD (k + 1) [])
                      rw [← h.1, ← h.2.1, ← h.2.2] at t
                      rw [← h.1] at o
                      rw [← h.2.1] at p1
                      rw [← h.2.2] at p2
                      omega
                    obtain ⟨hv1, hv2, hv3, hv4⟩ := hv
                    rw [hv1] at n1 NC
                    clear hc hv1
                    have wr0 : IntKind.i64.wrap (xA + xB) = xA + xB := wrap_in (by omega) hv4
                    have gs : (xA + xB == xA + xB) = true := by simp
                    have s1 := reg n1
                    clear hv2 hv3 hv4
                    go_wp2_with fail
                    refine wp_region_quiet_below (by kernel_rfl) (by kernel_rfl) ?_
                    repeat (go_big_quiet_step (first | with_reducible exact VQA.out _ _ | with_reducible exact VQB.out _ _))
                    refine wpQuiet_nil ?_
                    rintro _ ⟨⟨dq, osq⟩, hw''⟩
                    subst hw''
                    have HB21 : Hid (Below w18.heap.size w18 (grow (redrawn wr dq) osq)) := Lib.hid (RI.out.2.trans ((below_regrown wr dq osq).mono RI.out.2.size))
                    obtain ⟨W21, hW21⟩ : ∃ W, W = grow (redrawn wr dq) osq := ⟨_, rfl⟩
                    rw [← hW21] at HB21 ⊢
                    clear hW21 n0 n1 s1
                    go_wp2_with fail
                    go_roundg (wn - ((k + 1) + 1))
                    case measure => have := RI.out.1; omega
                    case rel => exact ⟨(k + 1) + 1, by omega, rfl, by go_num, HB21.out⟩
              · have CX := Lib.hid (RR.out.2.2.2.1.below RI.out.2)
                have el : apn + bpn + 1 = (aps ++ bps ++ [noneP]).length := by rw [List.length_append, List.length_append, ← AL.out.2, ← BL.out.2]; rfl
                have PL : Hid (Calls Tryd.prog 14 #[.agg #[.string ap, .string an, .slice xa aln xc, .int .i64 apr, .int .i64 adl, .slice a10 (apn + bpn + 1) d10, .int .i64 aver], .slice wa wn wc] wr fun e w' => e = .returned (.bool true) ∧ Below wr.heap.size wr w') := Lib.hid (by
                  have hp := CX.out.n.pts CX.out.p
                  have hu := RR.out.1.below RI.out.2
                  rw [GA.out.2.2.1] at hu
                  rw [el] at hp ⊢
                  exact plain_yes _ _ _ _ _ _ _ _ _ _ _ _ wr hp hu PJ.out.1 GA.out.1 GA.out.2.1)
                clear el
                have cc0 : wr.cell? ⟨w6.heap.size, 0, none⟩ = some (.string ap) := cell_of_row wr _ 0 _ _ _ CX.out.o
                have cc1 : wr.cell? ⟨w6.heap.size, 1, none⟩ = some (.string an) := cell_of_row wr _ 1 _ _ _ CX.out.o
                have cc2 : wr.cell? ⟨w6.heap.size, 2, none⟩ = some (.slice xa aln xc) := cell_of_row wr _ 2 _ _ _ CX.out.o
                have cc3 : wr.cell? ⟨w6.heap.size, 3, none⟩ = some (.int .i64 apr) := cell_of_row wr _ 3 _ _ _ CX.out.o
                have cc4 : wr.cell? ⟨w6.heap.size, 4, none⟩ = some (.int .i64 adl) := cell_of_row wr _ 4 _ _ _ CX.out.o
                have cc5 : wr.cell? ⟨w6.heap.size, 5, none⟩ = some (.slice a10 (apn + bpn + 1) d10) := cell_of_row wr _ 5 _ _ _ CX.out.o
                have cc6 : wr.cell? ⟨w6.heap.size, 6, none⟩ = some (.int .i64 aver) := cell_of_row wr _ 6 _ _ _ CX.out.o
                go_wp2_with fail
                refine PL.out.mono ?_
                rintro e w22 ⟨rfl, hb22⟩
                have HB22 : Hid (Below w.heap.size w w22) := Lib.hid (by
                  have q := RR.out.2.2.2.2
                  have q2 := q.trans (RI.out.2.mono q.size)
                  exact q2.trans (hb22.mono q2.size))
                clear hb22
                go_wp2_with fail
                go_ret
                exact ⟨rfl, HB22.out⟩
          · have h7 : eJ = 7 := by have q := G0.out; rw [← EJ.out.1] at q; omega
            clear hJ G0
            rw [hea, heb, h7]
            go_wp2_with fail
            go_ret
            exact ⟨rfl, RR.out.2.2.2.2⟩
        · have hJ : eJ ≠ 0 := by rw [EJ.out.1]; exact join_bad (Or.inr (by rw [← EB.out.1]; exact heb))
          have g1 : (eb == 0) = false := by simpa using heb
          have g2 : (eJ == 0) = false := by simpa using hJ
          rw [hea]
          clear hea
          go_wp2_with fail
          go_ret
          exact ⟨rfl, RR.out.2.2.2.2⟩
      · have hJ : eJ ≠ 0 := by rw [EJ.out.1]; exact join_bad (Or.inl (by rw [← EA.out.1]; exact hea))
        have g1 : (ea == 0) = false := by simpa using hea
        have g2 : (eJ == 0) = false := by simpa using hJ
        go_wp2_with fail
        go_ret
        exact ⟨rfl, RR.out.2.2.2.2⟩
end Go.Proofs.YtibjmmfodelhjaaDoor
