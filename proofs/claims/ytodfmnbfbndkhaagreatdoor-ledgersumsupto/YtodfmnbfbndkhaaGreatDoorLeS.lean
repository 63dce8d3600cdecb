/-
  strings.Clone, label.Line of every text; sharesOf.
-/
import Derived.Test.YtodfmnbfbndkhaaGreatDoorLeI
namespace Go.Proofs.YtodfmnbfbndkhaaGreatDoor
open Go.RowKit Go.Shelf
namespace Le
theorem clone_any (s : ByteArray) (w : World) (h : s.size ≤ 140737488355328) : Calls Tryz.prog 91 #[.string s] w fun e w' => e = .returned (.string s) ∧ Below w.heap.size w w' := by
  have C := Lib.hid (Tryz.stringslite_Clone s w (by omega))
  clear h
  go_enter Tryz.func91, Tryz.ntmps91
  go_wp2_with fail
  refine C.out.mono ?_
  rintro e w1 ⟨rfl, hb⟩
  have B := Lib.hid hb
  clear hb C
  go_wp2_with fail
  go_ret
  exact ⟨rfl, B.out⟩
/-- The line of a text: of what is no path none. -/
def lineP (p : ByteArray) : List ByteArray := match L.splitO p with
  | some ts => L.lineOf ts
  | none => []
theorem splitE_no {p : ByteArray} (h : L.splitO p = none) : L.splitE p = 41 := by unfold L.splitE; rw [h]; rfl
theorem splitE_yes {p : ByteArray} {ts : List ByteArray} (h : L.splitO p = some ts) : L.splitE p = 0 := by unfold L.splitE; rw [h]; rfl
theorem line_no (p : ByteArray) (w : World) (hm : L.HasM w) (hn : L.splitO p = none) : Calls Tryz.prog 45 #[.string p] w fun e w' => e = .returned (.tuple #[.slice none 0 0, .int .i64 41]) ∧ Below w.heap.size w w' := by
  have PA := Lib.hid (L.path_any p w hm)
  rw [splitE_no hn] at PA
  clear hm
  go_enter Tryz.func45, Tryz.ntmps45
  go_wp2_with fail
  refine PA.out.mono ?_
  rintro e w1 ⟨rfl, hb⟩
  have B1 := Lib.hid hb
  clear hb PA
  go_wp2_with fail
  go_ret2
  exact ⟨rfl, B1.out⟩
theorem line_all (p : ByteArray) (w : World) (hm : L.HasM w) : Calls Tryz.prog 45 #[.string p] w fun e w' => ∃ a n c, e = .returned (.tuple #[.slice a n c, .int .i64 (L.splitE p)]) ∧ L.Strs w' (.slice a n c) (lineP p) ∧ Below w.heap.size w w' := by
  cases h : L.splitO p with
  | none =>
    refine (line_no p w hm h).mono ?_
    rintro e w' ⟨rfl, hb⟩
    refine ⟨none, 0, 0, by rw [splitE_no h], ?_, hb⟩
    unfold lineP
    rw [h]
    exact ⟨none, 0, rfl, by simp, by decide, fun _ => rfl, fun k hk => by simp at hk⟩
  | some ts =>
    obtain ⟨rfl, hg⟩ := L.splitO_some h
    refine (L.line_any ts hg w hm).mono ?_
    rintro e w' ⟨v, rfl, ho, hb⟩
    have hs := ho.strs
    obtain ⟨a, c, e, _, _⟩ := hs.len
    subst e
    refine ⟨a, _, c, by unfold L.splitE; rw [h]; rfl, ?_, hb⟩
    unfold lineP
    rw [h]
    exact hs
/-- The packages' variables. -/
structure Gl (w : World) : Prop where
  hm : L.HasM w
  nm : Nms w
theorem Gl.below {w w' : World} (h : Gl w) (hb : Below w.heap.size w w') : Gl w' := ⟨h.hm.below hb, h.nm.below hb⟩
/-- What refuses an object; its shares. -/
noncomputable def shE (o : Ob) : Int := if L.splitE o.p ≠ 0 then 41 else usesE o.ps
noncomputable def shR (o : Ob) : Sh := shL (lineP o.p) (canS o) (usesL o.ps)
/-- What the closure has captured. -/
structure Cap (w : World) (g1 g2 g3 : Nat) (ln : List ByteArray) (sc : List (Int × Int)) (us : List Am) : Prop where
  ex : ∃ av n1 k1 bv n2 k2 dv n3 k3, w.cell? ⟨g1, 0, none⟩ = some (.slice av n1 k1) ∧ w.cell? ⟨g2, 0, none⟩ = some (.slice bv n2 k2) ∧ w.cell? ⟨g3, 0, none⟩ = some (.slice dv n3 k3) ∧ L.Strs w (.slice av n1 k1) ln ∧ Row kSc w (.slice bv n2 k2) sc ∧ Row kAm w (.slice dv n3 k3) us
def fnS (g1 g2 g3 : Nat) : Value := .func (.func 92) #[] #[.pointer (some ⟨g1, 0, none⟩), .pointer (some ⟨g2, 0, none⟩), .pointer (some ⟨g3, 0, none⟩)]
set_option maxHeartbeats 8000000 in
set_option maxRecDepth 100000 in
theorem shares_any (o : Ob) (ls ps : Value) (w : World) (H : Gl w) (hv : ObV w ls ps o) (hz : PSz o.ps) (hp : o.p.size ≤ 140737488355328) :
    Calls Tryz.prog 57 #[o.val ls ps] w fun e w' => Below w.heap.size w w' ∧ ∃ fv, e = .returned (.tuple #[fv, .int .i64 (shE o)]) ∧ (shE o = 0 → ∃ g1 g2 g3, fv = fnS g1 g2 g3 ∧ Cap w' g1 g2 g3 (lineP o.p) (canS o) (usesL o.ps)) := by
  obtain ⟨la, lc, rfl, _, _⟩ := hv.l.len
  obtain ⟨pa, pc, rfl, _, _⟩ := hv.p.len
  obtain ⟨nl, hnl⟩ : ∃ n, n = o.ls.length := ⟨_, rfl⟩
  obtain ⟨np, hnp⟩ : ∃ n, n = o.ps.length := ⟨_, rfl⟩
  rw [← hnl, ← hnp] at hv
  rw [← hnl, ← hnp]
  obtain ⟨g1, hg1⟩ : ∃ g, g = w.heap.size := ⟨_, rfl⟩
  have CLN := Lib.hid (fun W => clone_any o.p W hp)
  obtain ⟨ec, hec⟩ : ∃ c, c = L.splitE o.p := ⟨_, rfl⟩
  have EC : Hid (ec = L.splitE o.p) := Lib.hid hec
  have LA : Hid (∀ W, Gl W → Calls Tryz.prog 45 #[.string o.p] W fun e w' => ∃ a n c, e = .returned (.tuple #[.slice a n c, .int .i64 ec]) ∧ L.Strs w' (.slice a n c) (lineP o.p) ∧ Below W.heap.size W w') := Lib.hid (fun W h => by rw [hec]; exact line_all o.p W h.hm)
  have SE : Hid (shE o = if ec ≠ 0 then 41 else usesE o.ps) := Lib.hid (by rw [hec]; rfl)
  have EV : Hid (ec = 0 ∨ ec = 41) := Lib.hid (by rw [hec]; unfold L.splitE; split; exact Or.inl rfl; exact Or.inr rfl)
  have US : Hid (∀ W, ObV W (.slice la nl lc) (.slice pa np pc) o → Calls Tryz.prog 21 #[o.val (.slice la nl lc) (.slice pa np pc)] W fun e w' => ∃ a n c, e = .returned (.tuple #[.slice a n c, .int .i64 (usesE o.ps)]) ∧ Row kAm w' (.slice a n c) (usesL o.ps) ∧ Below W.heap.size W w') := Lib.hid (fun W h => (uses_any o _ _ W h hz).mono fun e w' ⟨a, n, c, h1, h2, h3⟩ => ⟨a, n, c, h1, h2.row okAm, h3⟩)
  have OF : Hid (∀ W, Gl W → ObV W (.slice la nl lc) (.slice pa np pc) o → Calls Tryz.prog 46 #[o.val (.slice la nl lc) (.slice pa np pc)] W fun e w' => ∃ a n c, e = .returned (.slice a n c) ∧ Row kSc w' (.slice a n c) (canS o) ∧ Below W.heap.size W w') := Lib.hid (fun W h1 h2 => (of_any o la nl lc pa np pc W h1.nm h2.p).mono fun e w' ⟨a, n, c, h3, h4, h5⟩ => ⟨a, n, c, h3, h4.row okSc, h5⟩)
  have OV : Hid (∀ W, Below w.heap.size w W → Gl W ∧ ObV W (.slice la nl lc) (.slice pa np pc) o) := Lib.hid (fun W h => ⟨H.below h, hv.below h⟩)
  obtain ⟨ue, hue⟩ : ∃ c, c = usesE o.ps := ⟨_, rfl⟩
  have UC : Hid (ue = 0 ∨ ue ≠ 0) := Lib.hid (by omega)
  rw [← hue] at SE US
  obtain ⟨LN, hLN⟩ : ∃ l, l = lineP o.p := ⟨_, rfl⟩
  obtain ⟨SC, hSC⟩ : ∃ l, l = canS o := ⟨_, rfl⟩
  obtain ⟨UL, hUL⟩ : ∃ l, l = usesL o.ps := ⟨_, rfl⟩
  rw [← hLN] at LA
  rw [← hSC] at OF
  rw [← hUL] at US
  rw [← hLN, ← hSC, ← hUL]
  obtain ⟨sE, hsE⟩ : ∃ c, c = shE o := ⟨_, rfl⟩
  rw [← hsE] at SE
  rw [← hsE]
  clear hv hz hp H hec hue hLN hSC hUL hsE EC hnl hnp
  obtain ⟨op, on, ols, opr, odl, ops, over⟩ := o
  unfold Ob.val at US OF ⊢
  simp only at CLN LA US OF ⊢
  obtain ⟨X, hX⟩ : ∃ X, X = w.alloc (.cells #[.string op, .string on, .slice la nl lc, .int .i64 opr, .int .i64 odl, .slice pa np pc, .int .i64 over] 25) := ⟨_, rfl⟩
  have BX : Hid (Below w.heap.size w X ∧ X.heap[g1]? = some (.cells #[.string op, .string on, .slice la nl lc, .int .i64 opr, .int .i64 odl, .slice pa np pc, .int .i64 over] 25 (0, 0))) := Lib.hid ⟨by rw [hX]; exact (Below.refl _ _).alloc (Nat.le_refl _) _, by rw [hX, hg1]; exact heap_alloc_new _ _⟩
  have CE : Hid (∀ W, Below X.heap.size X W → W.cell? ⟨g1, 0, none⟩ = some (.string op) ∧ W.cell? ⟨g1, 1, none⟩ = some (.string on) ∧ W.cell? ⟨g1, 2, none⟩ = some (.slice la nl lc) ∧ W.cell? ⟨g1, 3, none⟩ = some (.int .i64 opr) ∧ W.cell? ⟨g1, 4, none⟩ = some (.int .i64 odl) ∧ W.cell? ⟨g1, 5, none⟩ = some (.slice pa np pc) ∧ W.cell? ⟨g1, 6, none⟩ = some (.int .i64 over)) := Lib.hid fun W h => by
    have e := (h.block g1 (lt_of_some BX.out.2)).trans BX.out.2
    refine ⟨?_, ?_, ?_, ?_, ?_, ?_, ?_⟩ <;> rw [cell_of_row _ _ _ _ _ _ e] <;> rfl
  obtain ⟨a0, a1, a2, a3, a4, a5, a6⟩ := CE.out X (Below.refl _ _)
  have hX' := hX.symm
  have hg1' := hg1.symm
  clear hX hg1
  go_enter Tryz.func57, Tryz.ntmps57
  go_wp2_with fail
  refine (CLN.out X).mono ?_
  rintro e w1 ⟨rfl, hb⟩
  have B1 := Lib.hid hb
  clear hb a0 a1 a2 a3 a4 a5 a6 hX' hg1' CLN
  go_wp2_with fail
  refine (LA.out w1 (OV.out w1 (BX.out.1.trans (B1.out.mono BX.out.1.size))).1).mono ?_
  rintro e w2 ⟨av, n1, k1, rfl, hs, hb⟩
  have B2 : Hid (Below X.heap.size X w2) := Lib.hid (B1.out.trans (hb.mono B1.out.size))
  obtain ⟨g4, hg4⟩ : ∃ g, g = w2.heap.size := ⟨_, rfl⟩
  obtain ⟨W2, hW2⟩ : ∃ W, W = w2.alloc (.cells #[.slice av n1 k1] 95) := ⟨_, rfl⟩
  have b2 : Below w2.heap.size w2 W2 := by rw [hW2]; exact (Below.refl _ _).alloc (Nat.le_refl _) _
  have S2 : Hid (L.Strs W2 (.slice av n1 k1) LN ∧ W2.heap[g4]? = some (.cells #[.slice av n1 k1] 95 (0, 0)) ∧ Below X.heap.size X W2) := Lib.hid ⟨hs.below b2, by rw [hW2, hg4]; exact heap_alloc_new _ _, B2.out.trans (b2.mono B2.out.size)⟩
  have hW2' := hW2.symm
  have hg4' := hg4.symm
  clear hb hs b2 hW2 hg4 LA B1 B2
  rcases EV.out with he | he
  · subst he
    have SE2 : Hid (sE = ue) := Lib.hid (by rw [SE.out]; simp)
    obtain ⟨a0, a1, a2, a3, a4, a5, a6⟩ := CE.out W2 S2.out.2.2
    go_upto_region 4 with fail
    try rw [hW2']
    clear hW2' hg4'
    go_wp2_with fail
    refine (US.out W2 (OV.out W2 (BX.out.1.trans (S2.out.2.2.mono BX.out.1.size))).2).mono ?_
    rintro e w3 ⟨dv, n3, k3, rfl, hr, hb⟩
    obtain ⟨g6, hg6⟩ : ∃ g, g = w3.heap.size := ⟨_, rfl⟩
    obtain ⟨W3, hW3⟩ : ∃ W, W = w3.alloc (.cells #[.slice dv n3 k3] 33) := ⟨_, rfl⟩
    have b3 : Below w3.heap.size w3 W3 := by rw [hW3]; exact (Below.refl _ _).alloc (Nat.le_refl _) _
    have b4 : Below W2.heap.size W2 W3 := hb.trans (b3.mono hb.size)
    have S3 : Hid (L.Strs W3 (.slice av n1 k1) LN ∧ W3.heap[g4]? = some (.cells #[.slice av n1 k1] 95 (0, 0)) ∧ Row kAm W3 (.slice dv n3 k3) UL ∧ W3.heap[g6]? = some (.cells #[.slice dv n3 k3] 33 (0, 0)) ∧ Below X.heap.size X W3) := Lib.hid ⟨S2.out.1.below b4, (b4.block _ (lt_of_some S2.out.2.1)).trans S2.out.2.1, hr.below b3, by rw [hW3, hg6]; exact heap_alloc_new _ _, S2.out.2.2.trans (b4.mono S2.out.2.2.size)⟩
    have hW3' := hW3.symm
    have hg6' := hg6.symm
    clear hb hr b3 b4 hW3 hg6 US S2 a0 a1 a2 a3 a4 a5 a6
    rcases UC.out with h0 | h0
    · subst h0
      obtain ⟨a0, a1, a2, a3, a4, a5, a6⟩ := CE.out W3 S3.out.2.2.2.2
      go_upto_region 7 with fail
      try rw [hW3']
      clear hW3' hg6'
      go_wp2_with fail
      have bw := BX.out.1.trans (S3.out.2.2.2.2.mono BX.out.1.size)
      have OB := OV.out W3 bw
      refine (OF.out W3 OB.1 OB.2).mono ?_
      rintro e w4 ⟨bv, n2, k2, rfl, hr, hb⟩
      obtain ⟨g7, hg7⟩ : ∃ g, g = w4.heap.size := ⟨_, rfl⟩
      obtain ⟨W4, hW4⟩ : ∃ W, W = w4.alloc (.cells #[.slice bv n2 k2] 104) := ⟨_, rfl⟩
      have b3 : Below w4.heap.size w4 W4 := by rw [hW4]; exact (Below.refl _ _).alloc (Nat.le_refl _) _
      have b4 : Below W3.heap.size W3 W4 := hb.trans (b3.mono hb.size)
      have FIN : Hid (Below w.heap.size w W4 ∧ Cap W4 g4 g7 g6 LN SC UL) := Lib.hid (by
        refine ⟨bw.trans (b4.mono bw.size), ⟨av, n1, k1, bv, n2, k2, dv, n3, k3, ?_, ?_, ?_, S3.out.1.below b4, hr.below b3, S3.out.2.2.1.below b4⟩⟩
        · rw [cell_of_row _ _ _ _ _ _ ((b4.block _ (lt_of_some S3.out.2.1)).trans S3.out.2.1)]; rfl
        · have e : W4.heap[g7]? = some (.cells #[.slice bv n2 k2] 104 (0, 0)) := by rw [hW4, hg7]; exact heap_alloc_new _ _
          rw [cell_of_row _ _ _ _ _ _ e]; rfl
        · rw [cell_of_row _ _ _ _ _ _ ((b4.block _ (lt_of_some S3.out.2.2.2.1)).trans S3.out.2.2.2.1)]; rfl)
      have hW4' := hW4.symm
      have hg7' := hg7.symm
      clear hb hr b3 b4 hW4 hg7 bw OB a0 a1 a2 a3 a4 a5 a6
      go_wp2_with fail
      go_ret2
      exact ⟨FIN.out.1, fnS g4 g7 g6, by rw [SE2.out]; rfl, fun _ => ⟨g4, g7, g6, rfl, FIN.out.2⟩⟩
    · have g0 : (ue != 0) = true := by rw [bne_iff_ne]; exact h0
      have SE3 : Hid (sE ≠ 0) := Lib.hid (by rw [SE2.out]; exact h0)
      clear h0
      have bw : Hid (Below w.heap.size w W3) := Lib.hid (BX.out.1.trans (S3.out.2.2.2.2.mono BX.out.1.size))
      go_wp2_with fail
      go_ret2
      exact ⟨bw.out, .nilFunc, by rw [SE2.out]; rfl, fun h => absurd h SE3.out⟩
  · subst he
    have SE2 : Hid (sE = 41) := Lib.hid (by rw [SE.out]; simp)
    have bw : Hid (Below w.heap.size w W2) := Lib.hid (BX.out.1.trans (S2.out.2.2.mono BX.out.1.size))
    go_wp2_with fail
    go_ret2
    exact ⟨bw.out, .nilFunc, by rw [SE2.out]; rfl, fun h => by rw [SE2.out] at h; exact absurd h (by decide)⟩
end Le
end Go.Proofs.YtodfmnbfbndkhaaGreatDoor
