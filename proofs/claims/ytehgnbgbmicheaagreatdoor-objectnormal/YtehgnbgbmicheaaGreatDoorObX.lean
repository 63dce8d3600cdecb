/-
  layObject.
-/
import Derived.Test.YtehgnbgbmicheaaGreatDoorObW
namespace Go.Proofs.YtehgnbgbmicheaaGreatDoor
open Go.RowKit
/-- An object that may be laid. -/
structure Ob.Nice (o : Ob) : Prop where
  fit : o.Fit
  l : o.ls.length ≤ 4096
  p : o.ps.length ≤ 4096
  a : ∀ x ∈ o.ps, x.r.length ≤ 4096 ∧ x.l.length ≤ 4096 ∧ (∀ y ∈ x.r, 0 ≤ y.v) ∧ (∀ y ∈ x.l, 0 ≤ y.v)
  n : 0 ≤ o.pr ∧ o.pr ≤ 9 ∧ 0 ≤ o.dl ∧ 0 ≤ o.ver
def obCells (o : Ob) (ls ps : Value) : Array Value := #[.string o.p, .string o.n, ls, .int .i64 o.pr, .int .i64 o.dl, ps, .int .i64 o.ver]
theorem by8_c8 (n : Int) (h : 0 ≤ n) (h2 : n ≤ 9) : n = c8 (by8 n) := by
  obtain ⟨m, rfl⟩ : ∃ m : Nat, n = m := ⟨n.toNat, by omega⟩
  have : m ≤ 9 := by omega
  unfold by8 c8
  rw [Int.toNat_natCast, UInt8.toNat_ofNat']
  congr 1
  omega
theorem foldl_app {α β : Type} (f : β → α → β) (s : β) (a b : List α) : (a ++ b).foldl f s = b.foldl f (a.foldl f s) := List.foldl_append
set_option maxHeartbeats 8000000 in
set_option maxRecDepth 100000 in
theorem layObject_any (w0 : World) (B g : Nat) (v : Value) (s : WS) (o : Ob) (ls ps : Value) (w : World) (H : WAt B w g v s) (h0 : Below w0.heap.size w0 w) (lo : w0.heap.size ≤ B) (hv : ObV w0 ls ps o) (hn : o.Nice) :
    Calls Tryz.prog 24 #[.pointer (some ⟨g, 0, none⟩), o.val ls ps] w fun e w' => e = .returned (.tuple #[]) ∧ Laid B g v ((obL o).foldl WS.lay s) w w' := by
  have V : Aside (WAt B w g v s ∧ Below w0.heap.size w0 w ∧ w0.heap.size ≤ B ∧ ObV w0 ls ps o ∧ o.Nice) := ⟨H, h0, lo, hv, hn⟩
  obtain ⟨la, lc, rfl, hlc, hcm⟩ := hv.l.len
  obtain ⟨pa, pc, rfl, hlp, hcp⟩ := hv.p.len
  unfold maxLen at hcm hcp
  obtain ⟨op, on, ols, opr, odl, ops, ov⟩ := o
  simp only at hlc hlp V
  have NN := hn.n
  have NF := hn.fit.n
  simp only at NN NF
  have hl1 := hn.l
  have hl2 := hn.p
  simp only at hl1 hl2
  have hPR := by8_c8 opr NN.1 NN.2.1
  obtain ⟨c, hc⟩ : ∃ c, c = by8 opr := ⟨_, rfl⟩
  obtain ⟨dl, rfl⟩ : ∃ m : Nat, odl = m := ⟨odl.toNat, by omega⟩
  obtain ⟨ve, rfl⟩ : ∃ m : Nat, ov = m := ⟨ov.toNat, by omega⟩
  rw [← hc] at hPR
  obtain ⟨L0, hL0⟩ : ∃ L0, L0 = obL ⟨op, on, ols, opr, dl, ops, ve⟩ := ⟨_, rfl⟩
  have EL : Aside (obL ⟨op, on, ols, opr, dl, ops, ve⟩ = [tx op, tx on, form ols.length] ++ (ols.flatMap lbE ++ ([[c], form dl, form ops.length] ++ (ops.flatMap ptE ++ [form ve])))) := by
    show _ = _; rw [hc]; rfl
  rw [← hL0] at EL ⊢
  have hdl : dl ≤ 9223372036854775807 := by omega
  have hve : ve ≤ 9223372036854775807 := by omega
  clear H h0 lo hv hn hc NF NN hL0
  unfold Ob.val
  simp only
  have P9 : Aside (opr = c8 c) := hPR
  have pr9 : 0 ≤ opr ∧ opr ≤ 255 := by rw [hPR]; unfold c8; have := c.toNat_lt; omega
  have SZ : Aside (op.size ≤ 140737488355328 ∧ on.size ≤ 140737488355328) := V.out.2.2.2.2.fit.s
  have DL : Aside (dl < 18446744073709551616 ∧ ve < 18446744073709551616) := ⟨by omega, by omega⟩
  obtain ⟨cs, hcs⟩ : ∃ cs : Array Value, cs = #[.string op, .string on, .slice la ols.length lc, .int .i64 opr, .int .i64 dl, .slice pa ops.length pc, .int .i64 ve] := ⟨_, rfl⟩
  obtain ⟨bo, hbo⟩ : ∃ bo, bo = w.heap.size := ⟨_, rfl⟩
  have W0 : Aside (LX w B g v s [(bo, cs, 25)] (w.alloc (.cells #[.string op, .string on, .slice la ols.length lc, .int .i64 opr, .int .i64 dl, .slice pa ops.length pc, .int .i64 ve] 25))) := by
    rw [hcs, hbo]; exact (Laid.refl V.out.1).lx.box _ _
  have CS : Aside (cs = #[.string op, .string on, .slice la ols.length lc, .int .i64 opr, .int .i64 dl, .slice pa ops.length pc, .int .i64 ve]) := hcs
  clear hcs
  have c0 := W0.out.cell (List.mem_cons_self ..) (i := 0) (by rw [CS.out]; rfl)
  rw [hbo] at c0
  clear hPR
  go_enter Tryz.func24, Tryz.ntmps24
  go_wp2_with fail
  rw [← hbo]
  clear hbo
  -- WALK
  go_wp2_with fail
  refine (W0.out.calls (fun v' hv => wText_any B g v' _ op _ SZ.out.1 hv)).mono ?_
  rintro e w1 ⟨rfl, hw⟩
  have W1 : Aside (LX w B g v (s.lay (tx op)) [(bo, cs, 25)] w1) := hw
  clear hw W0 c0
  have c1 := W1.out.cell (List.mem_cons_self ..) (i := 1) (by rw [CS.out]; rfl)
  go_wp2_with fail
  refine (W1.out.calls (fun v' hv => wText_any B g v' _ on _ SZ.out.2 hv)).mono ?_
  rintro e w2 ⟨rfl, hw⟩
  have W2 : Aside (LX w B g v ((s.lay (tx op)).lay (tx on)) [(bo, cs, 25)] w2) := hw
  clear hw W1 c1
  have c2 := W2.out.cell (List.mem_cons_self ..) (i := 2) (by rw [CS.out]; rfl)
  go_wp2_with fail
  refine (W2.out.calls (fun v' hv => wCount_any B g v' _ (ols.length : Int) _ hv)).mono ?_
  rintro e w3 ⟨rfl, hw⟩
  rw [count_form _ _ hl1] at hw
  have W3 : Aside (LX w B g v (((s.lay (tx op)).lay (tx on)).lay (form ols.length)) [(bo, cs, 25)] w3) := hw
  clear hw W2 c2
  have c2 := W3.out.cell (List.mem_cons_self ..) (i := 2) (by rw [CS.out]; rfl)
  have S1 : Aside (((s.lay (tx op)).lay (tx on)).lay (form ols.length) = [tx op, tx on, form ols.length].foldl WS.lay s) := rfl
  obtain ⟨s1, hs1⟩ : ∃ s1, s1 = ((s.lay (tx op)).lay (tx on)).lay (form ols.length) := ⟨_, rfl⟩
  rw [← hs1] at W3 S1
  clear hs1
  go_wp2_with fail
  go_loopg [24] ols.length (fun gg si wr => ∃ (k : Nat), k ≤ ols.length ∧ gg = ols.length - k ∧ si = .int .i64 k ∧ LX w B g v (((ols.take k).flatMap lbE).foldl WS.lay s1) [(bo, cs, 25)] wr)
  case atStart => exact ⟨0, Nat.zero_le _, rfl, rfl, W3.out⟩
  case round =>
    clear W3 c2
    obtain ⟨k, hk, hg, rfl, hw⟩ := hrel
    have R : Aside (gk = ols.length - k ∧ LX w B g v (((ols.take k).flatMap lbE).foldl WS.lay s1) [(bo, cs, 25)] wr) := ⟨hg, hw⟩
    clear hg hw
    by_cases hlt : k < ols.length
    · obtain ⟨b, off, rfl, pc'⟩ := (V.out.2.2.2.1.l.below (R.out.2.laid.belowB V.out.1 V.out.2.1 V.out.2.2.1)).at k hlt
      have HS := V.out.2.2.2.2.fit.l _ (getD_in (d := kLb.z) hlt)
      simp only at pc'
      obtain ⟨x, hx⟩ : ∃ x, x = ols.getD k kLb.z := ⟨_, rfl⟩
      rw [← hx] at pc' HS
      obtain ⟨s2, hsx⟩ : ∃ s2, s2 = ((ols.take k).flatMap lbE).foldl WS.lay s1 := ⟨_, rfl⟩
      have X : Aside ((lbE x).foldl WS.lay s2 = ((ols.take (k + 1)).flatMap lbE).foldl WS.lay s1) := by
        show _ = _
        rw [take_onez ols k kLb.z hlt, ← hx, List.flatMap_append, List.foldl_append, ← hsx, List.flatMap_cons, List.flatMap_nil, List.append_nil]
      have W := R.out.2
      rw [← hsx] at W
      clear hx hsx
      have G : Aside (gk = ols.length - k) := R.out.1
      clear R
      obtain ⟨xk, xv⟩ := x
      have p0 : wr.cell? ⟨b, off + k * 2, none⟩ = some (.string xk) := pc' 0 _ rfl
      have p1 : wr.cell? ⟨b, off + k * 2 + 1, none⟩ = some (.string xv) := pc' 1 _ rfl
      have W0 := W.box #[.string xk, .string xv] 44
      have d0 := W0.cell (List.mem_cons_self ..) (i := 0) rfl
      have d1 := W0.cell (List.mem_cons_self ..) (i := 1) rfl
      have WA : Aside (LX w B g v s2 [(wr.heap.size, #[.string xk, .string xv], 44), (bo, cs, 25)] (wr.alloc (.cells #[.string xk, .string xv] 44))) := W0
      have HZ : Aside (xk.size ≤ 140737488355328 ∧ xv.size ≤ 140737488355328) := HS
      have hlt' : (k : Int) < (ols.length : Int) := by omega
      clear W W0 HS pc'
      go_wp2_with fail
      refine (WA.out.calls (fun v' hv => wText_any B g v' _ xk _ HZ.out.1 hv)).mono ?_
      rintro e w2 ⟨rfl, hw⟩
      clear d0 d1 p0 p1
      have d1 := hw.cell (List.mem_cons_self ..) (i := 1) rfl
      have WB : Aside (LX w B g v _ [(wr.heap.size, #[.string xk, .string xv], 44), (bo, cs, 25)] w2) := hw
      clear hw WA
      go_wp2_with fail
      refine (WB.out.calls (fun v' hv => wText_any B g v' _ xv _ HZ.out.2 hv)).mono ?_
      rintro e w3 ⟨rfl, hw⟩
      have WC : Aside (LX w B g v (((ols.take (k + 1)).flatMap lbE).foldl WS.lay s1) [(bo, cs, 25)] w3) := by rw [← X.out]; exact hw.pop
      clear hw WB d1
      go_wp2_with fail
      go_roundg (ols.length - (k + 1))
      case measure => have := G.out; omega
      case rel => exact ⟨k + 1, by omega, rfl, by go_num, WC.out⟩
    · have W4 : Aside (LX w B g v ((ols.flatMap lbE).foldl WS.lay s1) [(bo, cs, 25)] wr) := by
        have h2 := R.out.2
        rw [List.take_of_length_le (by omega)] at h2
        exact h2
      clear R
      obtain ⟨s2, hs2⟩ : ∃ s2, s2 = (ols.flatMap lbE).foldl WS.lay s1 := ⟨_, rfl⟩
      have S2 : Aside (s2 = (ols.flatMap lbE).foldl WS.lay s1) := hs2
      rw [← hs2] at W4
      clear hs2
      have c3 := W4.out.cell (List.mem_cons_self ..) (i := 3) (by rw [CS.out]; rfl)
      go_wp2_with fail
      refine (W4.out.calls (fun v' hv => wByte_eq P9.out B g v' _ _ hv)).mono ?_
      rintro e w5 ⟨rfl, hw⟩
      have W5 : Aside (LX w B g v (s2.lay [c]) [(bo, cs, 25)] w5) := hw
      clear hw W4 c3
      have c4 := W5.out.cell (List.mem_cons_self ..) (i := 4) (by rw [CS.out]; rfl)
      go_wp2_with fail
      refine (W5.out.calls (fun v' hv => wUint_any B g v' _ dl _ DL.out.1 hv)).mono ?_
      rintro e w6 ⟨rfl, hw⟩
      have W6 : Aside (LX w B g v ((s2.lay [c]).lay (form dl)) [(bo, cs, 25)] w6) := hw
      clear hw W5 c4
      have c5 := W6.out.cell (List.mem_cons_self ..) (i := 5) (by rw [CS.out]; rfl)
      go_wp2_with fail
      refine (W6.out.calls (fun v' hv => wCount_any B g v' _ (ops.length : Int) _ hv)).mono ?_
      rintro e w7 ⟨rfl, hw⟩
      rw [count_form _ _ hl2] at hw
      have W7 : Aside (LX w B g v (((s2.lay [c]).lay (form dl)).lay (form ops.length)) [(bo, cs, 25)] w7) := hw
      clear hw W6 c5
      have c5 := W7.out.cell (List.mem_cons_self ..) (i := 5) (by rw [CS.out]; rfl)
      obtain ⟨s3, hs3⟩ : ∃ s3, s3 = ((s2.lay [c]).lay (form dl)).lay (form ops.length) := ⟨_, rfl⟩
      have S3 : Aside (s3 = [[c], form dl, form ops.length].foldl WS.lay s2) := hs3
      rw [← hs3] at W7
      clear hs3
      go_wp2_with fail
      go_loopg [55] ops.length (fun gg si wr => ∃ (k : Nat), k ≤ ops.length ∧ gg = ops.length - k ∧ si = .int .i64 k ∧ LX w B g v (((ops.take k).flatMap ptE).foldl WS.lay s3) [(bo, cs, 25)] wr)
      case atStart => exact ⟨0, Nat.zero_le _, rfl, rfl, W7.out⟩
      case round =>
        clear W7 c5
        obtain ⟨k, hk, hg, rfl, hw⟩ := hrel
        have R : Aside (gk = ops.length - k ∧ LX w B g v (((ops.take k).flatMap ptE).foldl WS.lay s3) [(bo, cs, 25)] wr) := ⟨hg, hw⟩
        clear hg hw
        by_cases hlt : k < ops.length
        · obtain ⟨b, off, ra, rb, rfl, q0, q1, q2, hra, hrb⟩ := V.out.2.2.2.1.p.at k hlt
          have bel := R.out.2.laid.belowB V.out.1 V.out.2.1 V.out.2.2.1
          have p0 := (bel.cell (block_lt_of_cell q0)).trans q0
          have p1 := (bel.cell (block_lt_of_cell q1)).trans q1
          have p2 := (bel.cell (block_lt_of_cell q2)).trans q2
          clear q0 q1 q2 bel
          have HS := V.out.2.2.2.2.fit.p _ (getD_in (d := ⟨⟨#[]⟩, [], []⟩) hlt)
          have HA := V.out.2.2.2.2.a _ (getD_in (d := ⟨⟨#[]⟩, [], []⟩) hlt)
          simp only at p0 p1 p2 hra hrb
          obtain ⟨x, hx⟩ : ∃ x, x = ops.getD k ⟨⟨#[]⟩, [], []⟩ := ⟨_, rfl⟩
          rw [← hx] at p0 hra hrb HS HA
          obtain ⟨s4, hsx⟩ : ∃ s4, s4 = ((ops.take k).flatMap ptE).foldl WS.lay s3 := ⟨_, rfl⟩
          have X : Aside ((ptE x).foldl WS.lay s4 = ((ops.take (k + 1)).flatMap ptE).foldl WS.lay s3) := by
            show _ = _
            rw [take_onez ops k ⟨⟨#[]⟩, [], []⟩ hlt, ← hx, List.flatMap_append, List.foldl_append, ← hsx, List.flatMap_cons, List.flatMap_nil, List.append_nil]
          have W := R.out.2
          rw [← hsx] at W
          clear hx hsx
          have G : Aside (gk = ops.length - k) := R.out.1
          clear R
          obtain ⟨xn, xr, xl⟩ := x
          simp only at p0 hra hrb HS HA
          obtain ⟨ra1, ra2, ra3⟩ := ra
          obtain ⟨rb1, rb2, rb3⟩ := rb
          unfold Sl.v at p1 p2 hra hrb
          simp only at p1 p2 hra hrb
          have W0 := W.box #[.string xn, .slice ra1 ra2 ra3, .slice rb1 rb2 rb3] 52
          have d0 := W0.cell (List.mem_cons_self ..) (i := 0) rfl
          have d1 := W0.cell (List.mem_cons_self ..) (i := 1) rfl
          have d2 := W0.cell (List.mem_cons_self ..) (i := 2) rfl
          have WA : Aside (LX w B g v s4 [(wr.heap.size, #[.string xn, .slice ra1 ra2 ra3, .slice rb1 rb2 rb3], 52), (bo, cs, 25)] (wr.alloc (.cells #[.string xn, .slice ra1 ra2 ra3, .slice rb1 rb2 rb3] 52))) := W0
          have HZ : Aside (xn.size ≤ 140737488355328 ∧ (xr.length ≤ 4096 ∧ ∀ y ∈ xr, y.n.size ≤ 140737488355328 ∧ 0 ≤ y.v ∧ y.v ≤ 9223372036854775807) ∧ (xl.length ≤ 4096 ∧ ∀ y ∈ xl, y.n.size ≤ 140737488355328 ∧ 0 ≤ y.v ∧ y.v ≤ 9223372036854775807)) :=
            ⟨HS.1, ⟨HA.1, fun y hy => ⟨(HS.2.1 y hy).1, HA.2.2.1 y hy, (HS.2.1 y hy).2.2⟩⟩, ⟨HA.2.1, fun y hy => ⟨(HS.2.2 y hy).1, HA.2.2.2 y hy, (HS.2.2 y hy).2.2⟩⟩⟩
          have RW : Aside (Row kAm w0 (.slice ra1 ra2 ra3) xr ∧ Row kAm w0 (.slice rb1 rb2 rb3) xl) := ⟨hra, hrb⟩
          have hlt' : (k : Int) < (ops.length : Int) := by omega
          clear W W0 HS HA hra hrb
          go_wp2_with fail
          refine (WA.out.calls (fun v' hv => wText_any B g v' _ xn _ HZ.out.1 hv)).mono ?_
          rintro e w2 ⟨rfl, hw⟩
          clear d0 d1 d2 p0 p1 p2
          have d1 := hw.cell (List.mem_cons_self ..) (i := 1) rfl
          have WB : Aside (LX w B g v _ [(wr.heap.size, #[.string xn, .slice ra1 ra2 ra3, .slice rb1 rb2 rb3], 52), (bo, cs, 25)] w2) := hw
          clear hw WA
          go_wp2_with fail
          refine (WB.out.calls (fun v' hv => layAmounts_any w0 B g v' _ (.slice ra1 ra2 ra3) xr w2 hv (WB.out.laid.belowB V.out.1 V.out.2.1 V.out.2.2.1) V.out.2.2.1 RW.out.1 HZ.out.2.1.1 HZ.out.2.1.2)).mono ?_
          rintro e w3 ⟨rfl, hw⟩
          clear d1
          have d2 := hw.cell (List.mem_cons_self ..) (i := 2) rfl
          have WC : Aside (LX w B g v _ [(wr.heap.size, #[.string xn, .slice ra1 ra2 ra3, .slice rb1 rb2 rb3], 52), (bo, cs, 25)] w3) := hw
          clear hw WB
          go_wp2_with fail
          refine (WC.out.calls (fun v' hv => layAmounts_any w0 B g v' _ (.slice rb1 rb2 rb3) xl w3 hv (WC.out.laid.belowB V.out.1 V.out.2.1 V.out.2.2.1) V.out.2.2.1 RW.out.2 HZ.out.2.2.1 HZ.out.2.2.2)).mono ?_
          rintro e w4 ⟨rfl, hw⟩
          have WD : Aside (LX w B g v (((ops.take (k + 1)).flatMap ptE).foldl WS.lay s3) [(bo, cs, 25)] w4) := by
            rw [← X.out]
            have := hw.pop
            unfold ptE
            rw [List.foldl_cons, List.foldl_append]
            exact this
          clear hw WC d2
          go_wp2_with fail
          go_roundg (ops.length - (k + 1))
          case measure => have := G.out; omega
          case rel => exact ⟨k + 1, by omega, rfl, by go_num, WD.out⟩
        · have W8 : Aside (LX w B g v ((ops.flatMap ptE).foldl WS.lay s3) [(bo, cs, 25)] wr) := by
            have h2 := R.out.2
            rw [List.take_of_length_le (by omega)] at h2
            exact h2
          clear R
          have c6 := W8.out.cell (List.mem_cons_self ..) (i := 6) (by rw [CS.out]; rfl)
          go_wp2_with fail
          refine (W8.out.calls (fun v' hv => wUint_any B g v' _ ve _ DL.out.2 hv)).mono ?_
          rintro e w9 ⟨rfl, hw⟩
          have W9 : Aside (Laid B g v (L0.foldl WS.lay s) w w9) := by
            rw [EL.out, foldl_app, ← S1.out, foldl_app, ← S2.out, foldl_app, ← S3.out, foldl_app]
            exact hw.laid
          clear hw W8 c6
          go_wp2_with fail
          go_end0
          exact ⟨rfl, W9.out⟩
end Go.Proofs.YtehgnbgbmicheaaGreatDoor
