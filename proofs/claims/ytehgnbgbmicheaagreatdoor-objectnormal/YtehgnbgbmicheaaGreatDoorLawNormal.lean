/-
  The law ObjectNormal, over any contract of shuffled.
-/
import Derived.Test.YtehgnbgbmicheaaGreatDoorNxG3
import Derived.Test.YtehgnbgbmicheaaGreatDoorNxT
import Derived.Test.YtehgnbgbmicheaaGreatDoorObFx
import Derived.Test.YtehgnbgbmicheaaGreatDoorOpenI
namespace Go.Proofs.YtehgnbgbmicheaaGreatDoor
open Go.RowKit Go.Sort Go.Lib
namespace Nx
theorem cells7 {W : World} {b : Nat} {a0 a1 a2 a3 a4 a5 a6 : Value} {t : TypeId} {m : Nat × Nat} (h : W.heap[b]? = some (.cells #[a0, a1, a2, a3, a4, a5, a6] t m)) : W.cell? ⟨b, 0, none⟩ = some a0 ∧ W.cell? ⟨b, 1, none⟩ = some a1 ∧ W.cell? ⟨b, 2, none⟩ = some a2 ∧ W.cell? ⟨b, 3, none⟩ = some a3 ∧ W.cell? ⟨b, 4, none⟩ = some a4 ∧ W.cell? ⟨b, 5, none⟩ = some a5 ∧ W.cell? ⟨b, 6, none⟩ = some a6 :=
  ⟨by rw [cell_of_row _ _ _ _ _ _ h]; rfl, by rw [cell_of_row _ _ _ _ _ _ h]; rfl, by rw [cell_of_row _ _ _ _ _ _ h]; rfl, by rw [cell_of_row _ _ _ _ _ _ h]; rfl, by rw [cell_of_row _ _ _ _ _ _ h]; rfl, by rw [cell_of_row _ _ _ _ _ _ h]; rfl, by rw [cell_of_row _ _ _ _ _ _ h]; rfl⟩
/-- The box of the argument, and that nothing older was touched. -/
structure KO (w : World) (co : Array Value) (W : World) : Prop where
  o : W.heap[w.heap.size]? = some (.cells co 25 (0, 0))
  be : Below w.heap.size w W
theorem KO.below {w W W' : World} {co : Array Value} (h : KO w co W) (hb : Below W.heap.size W W') : KO w co W' := ⟨by rw [hb.block _ (lt_of_some h.o)]; exact h.o, h.be.trans (hb.mono h.be.size)⟩
theorem keepB {W W' : World} {b : Nat} {x : Obj} (h : W.heap[b]? = some x) (hb : Below W.heap.size W W') : W'.heap[b]? = some x := by rw [hb.block _ (lt_of_some h)]; exact h
theorem ObA.obo {B : Nat} {W : World} {u v : Value} {x : Ob} (h : ObA B W u v x) : ObO B W u v x := by
  obtain ⟨rs, h1, h2, h3, _⟩ := h; exact ⟨rs, h1, h2, h3⟩
theorem sameObject_eq (o o' : Ob) (h : o = o') (vl vp vl' vp' : Value) (w : World) (ho : ObV w vl vp o) (ho' : ObV w vl' vp' o') :
    Calls Tryz.prog 8 #[o.val vl vp, o'.val vl' vp'] w fun e w' => e = .returned (.bool true) ∧ Below w.heap.size w w' := by subst h; exact sameObject_yes o vl vp vl' vp' w ho ho'
set_option maxHeartbeats 16000000 in
set_option maxRecDepth 100000 in
theorem objectNormal_core (SHU : ∀ (n : Ob) (u v vt vc : Value) (ts cs : List Int) (w : World), ObV w u v n → n.Fit → (n.ls.length ≤ 16 ∧ n.ps.length ≤ 8 ∧ ∀ p ∈ n.ps, p.r.length ≤ 16 ∧ p.l.length ≤ 16) → Row kI w vt ts → InR ts → Row kJ w vc cs → InR cs → Calls Tryz.prog 9 #[n.val u v, vt, vc] w fun e w' => ∃ vl vp, e = .returned ((shf n ts cs).val vl vp) ∧ ObO w.heap.size w' vl vp (shf n ts cs) ∧ Below w.heap.size w w')
    (o : Ob) (ou opv : Value) (vt : Value) (ts : List Int) (vc : Value) (cs : List Int) (w : World) (hm : L.HasM w)
    (ho : ObV w ou opv o ∧ o.Fit ∧ o.ls.length * 32 ≤ 140737488355328 ∧ o.ps.length * 64 ≤ 140737488355328 ∧ ∀ y ∈ o.ps, y.r.length * 24 ≤ 140737488355328 ∧ y.l.length * 24 ≤ 140737488355328) (ht : Row kI w vt ts) (hti : InR ts) (hc : Row kJ w vc cs) (hci : InR cs) :
    Calls Tryz.prog 3 #[o.val ou opv, vt, vc] w fun e w' => e = .returned (.bool true) ∧ Below w.heap.size w w' := by
  have HS := Lib.hid SHU
  have HT := Lib.hid (And.intro ht (And.intro hti (And.intro hc hci)))
  have HO := Lib.hid ho
  have HM := Lib.hid hm
  obtain ⟨la, lc, rfl, _, _⟩ := ho.1.l.len
  obtain ⟨pa, pc, rfl, _, _⟩ := ho.1.p.len
  obtain ⟨ta, tc, rfl, _, _⟩ := ht.len
  obtain ⟨ca, cc, rfl, _, _⟩ := hc.len
  clear ho hm ht hti hc hci SHU
  unfold Ob.val
  obtain ⟨X1, hX1⟩ : ∃ X, X = w.alloc (.cells #[.string o.p, .string o.n, .slice la o.ls.length lc, .int .i64 o.pr, .int .i64 o.dl, .slice pa o.ps.length pc, .int .i64 o.ver] 25) := ⟨_, rfl⟩
  have K : Hid (KO w #[.string o.p, .string o.n, .slice la o.ls.length lc, .int .i64 o.pr, .int .i64 o.dl, .slice pa o.ps.length pc, .int .i64 o.ver] X1) := Lib.hid ⟨by rw [hX1, heap_alloc_new], by rw [hX1]; exact (Below.refl _ _).alloc (Nat.le_refl _) _⟩
  have h1 := hX1.symm
  clear hX1
  go_enter Tryz.func3, Tryz.ntmps3
  go_wp2_with fail
  clear h1
  refine (fixed_any sameObject_yes X1 (HM.out.below K.out.be)).mono ?_
  rintro e W1 ⟨rfl, hb⟩
  have K2 := Lib.hid (KO.below K.out hb)
  clear K
  have K := K2
  clear K2
  clear hb
  obtain ⟨r0, r1, r2, r3, r4, r5, r6⟩ := cells7 (K.out.o)
  have OW := Lib.hid (ownObject_ap o _ _ W1 (HO.out.1.below K.out.be) HO.out.2.2.1 HO.out.2.2.2.1 HO.out.2.2.2.2)
  unfold Ob.val at OW
  go_wp2_with fail
  refine OW.out.mono ?_
  rintro e W2 ⟨v1, v2, rfl, ha, hb⟩
  have A2 := Lib.hid ha.obo
  clear OW ha
  have K2 := Lib.hid (KO.below K.out hb)
  clear K
  have K := K2
  clear K2
  clear r0 r1 r2 r3 r4 r5 r6
  clear hb
  have NO := Lib.hid (normal_own o v1 v2 W2 (HM.out.below K.out.be) A2.out HO.out.2.1 HO.out.2.2.1 HO.out.2.2.2.1 HO.out.2.2.2.2)
  unfold Ob.val at NO
  go_wp2_with fail
  refine NO.out.mono ?_
  rintro e W3 hn
  obtain ⟨hcase, hb⟩ := NoP.any hn HO.out.2.1
  clear hn NO A2
  have K2 := Lib.hid (KO.below K.out hb)
  clear K
  have K := K2
  clear K2
  clear hb
  rcases hcase with ⟨n, v3, v4, rfl, hv, hobo, hiff, LS, SP, hnob, hp1, hp2, hok⟩ | ⟨hv, c, hc, rfl⟩
  · have NF : Hid (n.Fit ∧ (obR n).2 = 0 ∧ ((obR o).2 = 0 ↔ n = o)) := Lib.hid ⟨by rw [hnob]; exact nob_fit HO.out.2.1 hp1 hp2 hok, hv, hiff⟩
    have NV := Lib.hid hobo.obv
    clear hnob hp1 hp2 hok hv hiff hobo
    obtain ⟨na, nc, rfl, _, _⟩ := NV.out.l.len
    obtain ⟨ma, mc, rfl, _, _⟩ := NV.out.p.len
    unfold Ob.val
    obtain ⟨X3, hX3⟩ : ∃ X, X = W3.alloc (.cells #[.string n.p, .string n.n, .slice na n.ls.length nc, .int .i64 n.pr, .int .i64 n.dl, .slice ma n.ps.length mc, .int .i64 n.ver] 25) := ⟨_, rfl⟩
    obtain ⟨b8, hb8⟩ : ∃ b, b = W3.heap.size := ⟨_, rfl⟩
    have hb : Below W3.heap.size W3 X3 := by rw [hX3]; exact (Below.refl _ _).alloc (Nat.le_refl _) _
    have N3 : Hid (X3.heap[b8]? = some (.cells #[.string n.p, .string n.n, .slice na n.ls.length nc, .int .i64 n.pr, .int .i64 n.dl, .slice ma n.ps.length mc, .int .i64 n.ver] 25 (0, 0))) := Lib.hid (by rw [hX3, hb8, heap_alloc_new])
    have V3 := Lib.hid (NV.out.below hb)
    have hX9 := hX3.symm
    have hb9 := hb8.symm
    have K2 := Lib.hid (KO.below K.out hb)
    clear K
    have K := K2
    clear K2
    clear hb hX3 hb8 NV
    obtain ⟨r0, r1, r2, r3, r4, r5, r6⟩ := cells7 (K.out.o)
    have OW := Lib.hid (ownObject_ap o _ _ X3 (HO.out.1.below K.out.be) HO.out.2.2.1 HO.out.2.2.2.1 HO.out.2.2.2.2)
    unfold Ob.val at OW
    go_wp2_with fail
    clear hX9 hb9
    refine OW.out.mono ?_
    rintro e W4 ⟨v1, v2, rfl, ha, hb⟩
    have A4 := Lib.hid ha.obo.obv
    have N4 := Lib.hid (keepB N3.out hb)
    have V4 := Lib.hid (V3.out.below hb)
    clear OW ha N3 V3
    have K2 := Lib.hid (KO.below K.out hb)
    clear K
    have K := K2
    clear K2
    clear r0 r1 r2 r3 r4 r5 r6
    clear hb
    have VO := Lib.hid (valido_any o v1 v2 W4 (HM.out.below K.out.be) A4.out HO.out.2.1)
    unfold Ob.val at VO
    obtain ⟨f, hf⟩ : ∃ f, f = (obR o).2 := ⟨_, rfl⟩
    rw [← hf] at VO
    have HF := Lib.hid hf
    clear hf
    go_wp2_with fail
    refine VO.out.mono ?_
    rintro e W5 ⟨rfl, hb⟩
    have N5 := Lib.hid (keepB N4.out hb)
    have V5 := Lib.hid (V4.out.below hb)
    clear VO A4 N4 V4
    have K2 := Lib.hid (KO.below K.out hb)
    clear K
    have K := K2
    clear K2
    clear hb
    obtain ⟨s0, s1, s2, s3, s4, s5, s6⟩ := cells7 (N5.out)
    have OW := Lib.hid (ownObject_ap n _ _ W5 V5.out (few_of NF.out.2.1).sizes.1 (few_of NF.out.2.1).sizes.2.1 (few_of NF.out.2.1).sizes.2.2)
    unfold Ob.val at OW
    go_wp2_with fail
    refine OW.out.mono ?_
    rintro e W6 ⟨v3, v4, rfl, ha, hb⟩
    have A6 := Lib.hid ha.obo.obv
    have N6 := Lib.hid (keepB N5.out hb)
    have V6 := Lib.hid (V5.out.below hb)
    clear OW ha N5 V5
    have K2 := Lib.hid (KO.below K.out hb)
    clear K
    have K := K2
    clear K2
    clear s0 s1 s2 s3 s4 s5 s6
    clear hb
    have VO := Lib.hid (valido_any n v3 v4 W6 (HM.out.below K.out.be) A6.out NF.out.1)
    rw [NF.out.2.1] at VO
    unfold Ob.val at VO
    have M1 : True := trivial
    by_cases hf0 : f = 0
    · have g1 : (f == 0) = true := by rw [hf0]; rfl
      have g2 : ((f : Int) == 0) = true := by rw [hf0]; rfl
      have EN : Hid (n = o) := Lib.hid (NF.out.2.2.1 (by rw [← HF.out]; exact hf0))
      go_wp2_with (first
        | (go_at_call 7; clear M1; refine VO.out.mono ?_; rintro e W7 ⟨rfl, hb⟩
           have N7 := Lib.hid (keepB N6.out hb)
           have V7 := Lib.hid (V6.out.below hb)
           have K2 := Lib.hid (KO.below K.out hb)
           clear K
           have K := K2
           clear K2 hb VO A6
           obtain ⟨s0, s1, s2, s3, s4, s5, s6⟩ := cells7 (N7.out)
           obtain ⟨r0, r1, r2, r3, r4, r5, r6⟩ := cells7 (K.out.o)
           have SO := Lib.hid (sameObject_eq n o EN.out _ _ _ _ W7 V7.out (HO.out.1.below K.out.be))
           unfold Ob.val at SO)
        | (go_at_call 8; refine SO.out.mono ?_; rintro e W8 ⟨rfl, hb⟩
           have N8 := Lib.hid (keepB N7.out hb)
           have V8 := Lib.hid (V7.out.below hb)
           have K2 := Lib.hid (KO.below K.out hb)
           clear K
           have K := K2
           clear K2 hb SO s0 s1 s2 s3 s4 s5 s6 r0 r1 r2 r3 r4 r5 r6
           obtain ⟨s0, s1, s2, s3, s4, s5, s6⟩ := cells7 (N8.out)
           have SH := Lib.hid (HS.out n _ _ _ _ ts cs W8 V8.out NF.out.1 (valid_few NF.out.2.1) (HT.out.1.below K.out.be) HT.out.2.1 (HT.out.2.2.1.below K.out.be) HT.out.2.2.2)
           unfold Ob.val at SH)
        | (go_at_call 9; refine SH.out.mono ?_; rintro e W9 ⟨v5, v6, rfl, hob, hb⟩
           have A9 := Lib.hid hob
           have N9 := Lib.hid (keepB N8.out hb)
           have V9 := Lib.hid (V8.out.below hb)
           have K2 := Lib.hid (KO.below K.out hb)
           clear K
           have K := K2
           clear K2 hb SH hob s0 s1 s2 s3 s4 s5 s6
           have NO := Lib.hid (normal_own (shf n ts cs) v5 v6 W9 (HM.out.below K.out.be) A9.out (shf_fit ts cs NF.out.1) (shf_few ts cs NF.out.2.1).sizes.1 (shf_few ts cs NF.out.2.1).sizes.2.1 (shf_few ts cs NF.out.2.1).sizes.2.2)
           unfold Ob.val at NO)
        | (go_at_call 5; refine NO.out.mono ?_; rintro e W10 hn
           obtain ⟨⟨v7, v8, rfl, hob⟩, hb⟩ := NoP.shf hn NF.out.2.1 NF.out.1
           obtain ⟨ua, uc, rfl, _, _⟩ := hob.obv.l.len
           obtain ⟨wa, wc, rfl, _, _⟩ := hob.obv.p.len
           obtain ⟨X11, hX11⟩ : ∃ X, X = W10.alloc (.cells #[.string n.p, .string n.n, .slice ua n.ls.length uc, .int .i64 n.pr, .int .i64 n.dl, .slice wa n.ps.length wc, .int .i64 n.ver] 25) := ⟨_, rfl⟩
           obtain ⟨b11, hb11⟩ : ∃ b, b = W10.heap.size := ⟨_, rfl⟩
           have hb2 : Below W10.heap.size W10 X11 := by rw [hX11]; exact (Below.refl _ _).alloc (Nat.le_refl _) _
           have N11 : Hid (X11.heap[b11]? = some (.cells #[.string n.p, .string n.n, .slice ua n.ls.length uc, .int .i64 n.pr, .int .i64 n.dl, .slice wa n.ps.length wc, .int .i64 n.ver] 25 (0, 0))) := Lib.hid (by rw [hX11, hb11, heap_alloc_new])
           have A11 := Lib.hid (hob.obv.below hb2)
           have N12 := Lib.hid (keepB (keepB N9.out hb) hb2)
           have V11 := Lib.hid ((V9.out.below hb).below hb2)
           have K2 := Lib.hid (KO.below (KO.below K.out hb) hb2)
           clear K
           have K := K2
           have hX12 := hX11.symm
           have hb12 := hb11.symm
           clear K2 hb hb2 NO hob hn hX11 hb11
           obtain ⟨t0, t1, t2, t3, t4, t5, t6⟩ := cells7 (N11.out)
           obtain ⟨s0, s1, s2, s3, s4, s5, s6⟩ := cells7 (N12.out)
           have SP := Lib.hid (sameObject_yes n _ _ _ _ X11 A11.out V11.out)
           unfold Ob.val at SP
           unfold Ob.val)
        | (go_at_call 8; refine SP.out.mono ?_; rintro e W12 ⟨rfl, hb⟩
           have B12 := Lib.hid hb
           clear hb))
      go_ret
      exact ⟨rfl, K.out.be.trans (B12.out.mono K.out.be.size)⟩
    · have g1 : (f == 0) = false := by rw [beq_eq_false_iff_ne]; exact hf0
      have g2 : ((f : Int) == 0) = false := by rw [beq_eq_false_iff_ne]; omega
      have EN : Hid (n ≠ o) := Lib.hid (fun e => hf0 (by rw [HF.out]; exact NF.out.2.2.2 e))
      go_wp2_with (first
        | (go_at_call 7; clear M1; refine VO.out.mono ?_; rintro e W7 ⟨rfl, hb⟩
           have N7 := Lib.hid (keepB N6.out hb)
           have V7 := Lib.hid (V6.out.below hb)
           have K2 := Lib.hid (KO.below K.out hb)
           clear K
           have K := K2
           clear K2 hb VO A6
           obtain ⟨s0, s1, s2, s3, s4, s5, s6⟩ := cells7 (N7.out)
           obtain ⟨r0, r1, r2, r3, r4, r5, r6⟩ := cells7 (K.out.o)
           have SO := Lib.hid (sameObject_no n o _ _ _ _ W7 V7.out (HO.out.1.below K.out.be) EN.out)
           unfold Ob.val at SO)
        | (go_at_call 8; refine SO.out.mono ?_; rintro e W8 ⟨rfl, hb⟩
           have N8 := Lib.hid (keepB N7.out hb)
           have V8 := Lib.hid (V7.out.below hb)
           have K2 := Lib.hid (KO.below K.out hb)
           clear K
           have K := K2
           clear K2 hb SO s0 s1 s2 s3 s4 s5 s6 r0 r1 r2 r3 r4 r5 r6
           obtain ⟨s0, s1, s2, s3, s4, s5, s6⟩ := cells7 (N8.out)
           have SH := Lib.hid (HS.out n _ _ _ _ ts cs W8 V8.out NF.out.1 (valid_few NF.out.2.1) (HT.out.1.below K.out.be) HT.out.2.1 (HT.out.2.2.1.below K.out.be) HT.out.2.2.2)
           unfold Ob.val at SH)
        | (go_at_call 9; refine SH.out.mono ?_; rintro e W9 ⟨v5, v6, rfl, hob, hb⟩
           have A9 := Lib.hid hob
           have N9 := Lib.hid (keepB N8.out hb)
           have V9 := Lib.hid (V8.out.below hb)
           have K2 := Lib.hid (KO.below K.out hb)
           clear K
           have K := K2
           clear K2 hb SH hob s0 s1 s2 s3 s4 s5 s6
           have NO := Lib.hid (normal_own (shf n ts cs) v5 v6 W9 (HM.out.below K.out.be) A9.out (shf_fit ts cs NF.out.1) (shf_few ts cs NF.out.2.1).sizes.1 (shf_few ts cs NF.out.2.1).sizes.2.1 (shf_few ts cs NF.out.2.1).sizes.2.2)
           unfold Ob.val at NO)
        | (go_at_call 5; refine NO.out.mono ?_; rintro e W10 hn
           obtain ⟨⟨v7, v8, rfl, hob⟩, hb⟩ := NoP.shf hn NF.out.2.1 NF.out.1
           obtain ⟨ua, uc, rfl, _, _⟩ := hob.obv.l.len
           obtain ⟨wa, wc, rfl, _, _⟩ := hob.obv.p.len
           obtain ⟨X11, hX11⟩ : ∃ X, X = W10.alloc (.cells #[.string n.p, .string n.n, .slice ua n.ls.length uc, .int .i64 n.pr, .int .i64 n.dl, .slice wa n.ps.length wc, .int .i64 n.ver] 25) := ⟨_, rfl⟩
           obtain ⟨b11, hb11⟩ : ∃ b, b = W10.heap.size := ⟨_, rfl⟩
           have hb2 : Below W10.heap.size W10 X11 := by rw [hX11]; exact (Below.refl _ _).alloc (Nat.le_refl _) _
           have N11 : Hid (X11.heap[b11]? = some (.cells #[.string n.p, .string n.n, .slice ua n.ls.length uc, .int .i64 n.pr, .int .i64 n.dl, .slice wa n.ps.length wc, .int .i64 n.ver] 25 (0, 0))) := Lib.hid (by rw [hX11, hb11, heap_alloc_new])
           have A11 := Lib.hid (hob.obv.below hb2)
           have N12 := Lib.hid (keepB (keepB N9.out hb) hb2)
           have V11 := Lib.hid ((V9.out.below hb).below hb2)
           have K2 := Lib.hid (KO.below (KO.below K.out hb) hb2)
           clear K
           have K := K2
           have hX12 := hX11.symm
           have hb12 := hb11.symm
           clear K2 hb hb2 NO hob hn hX11 hb11
           obtain ⟨t0, t1, t2, t3, t4, t5, t6⟩ := cells7 (N11.out)
           obtain ⟨s0, s1, s2, s3, s4, s5, s6⟩ := cells7 (N12.out)
           have SP := Lib.hid (sameObject_yes n _ _ _ _ X11 A11.out V11.out)
           unfold Ob.val at SP
           unfold Ob.val)
        | (go_at_call 8; refine SP.out.mono ?_; rintro e W12 ⟨rfl, hb⟩
           have B12 := Lib.hid hb
           clear hb))
      go_ret
      exact ⟨rfl, K.out.be.trans (B12.out.mono K.out.be.size)⟩
  · obtain ⟨X3, hX3⟩ : ∃ X, X = W3.alloc (.cells #[.string ⟨#[]⟩, .string ⟨#[]⟩, .slice none 0 0, .int .i64 0, .int .i64 0, .slice none 0 0, .int .i64 0] 25) := ⟨_, rfl⟩
    obtain ⟨b8, hb8⟩ : ∃ b, b = W3.heap.size := ⟨_, rfl⟩
    have BN : Hid (w.heap.size < b8) := Lib.hid (by rw [hb8]; exact lt_of_some K.out.o)
    have hb : Below W3.heap.size W3 X3 := by rw [hX3]; exact (Below.refl _ _).alloc (Nat.le_refl _) _
    have N3 : Hid (X3.heap[b8]? = some (.cells #[.string ⟨#[]⟩, .string ⟨#[]⟩, .slice none 0 0, .int .i64 0, .int .i64 0, .slice none 0 0, .int .i64 0] 25 (0, 0))) := Lib.hid (by rw [hX3, hb8, heap_alloc_new])
    have hX9 := hX3.symm
    have hb9 := hb8.symm
    have K2 := Lib.hid (KO.below K.out hb)
    clear K
    have K := K2
    clear K2
    clear hb hX3 hb8
    obtain ⟨r0, r1, r2, r3, r4, r5, r6⟩ := cells7 (K.out.o)
    unfold zO
    obtain ⟨X4, hX4⟩ : ∃ X, X3.setRow b8 #[.string ⟨#[]⟩, .string ⟨#[]⟩, .slice none 0 0, .int .i64 0, .int .i64 0, .slice none 0 0, .int .i64 0] = X := ⟨_, rfl⟩
    have KS := Lib.hid (kept_setRow X3 b8 #[.string ⟨#[]⟩, .string ⟨#[]⟩, .slice none 0 0, .int .i64 0, .int .i64 0, .slice none 0 0, .int .i64 0])
    have N4z : Hid (X4.heap[b8]? = some (.cells #[.string ⟨#[]⟩, .string ⟨#[]⟩, .slice none 0 0, .int .i64 0, .int .i64 0, .slice none 0 0, .int .i64 0] 25 (0, 0))) := Lib.hid (by rw [← hX4]; exact setRow_heap _ _ _ _ _ _ N3.out)
    have K2 : Hid (KO w #[.string o.p, .string o.n, .slice la o.ls.length lc, .int .i64 o.pr, .int .i64 o.dl, .slice pa o.ps.length pc, .int .i64 o.ver] X4) := Lib.hid (by
      have q := KS.out
      rw [hX4] at q
      have hne : w.heap.size ≠ b8 := by have := BN.out; omega
      exact ⟨by rw [q.block _ (lt_of_some K.out.o) hne]; exact K.out.o, K.out.be.trans (q.below K.out.be.size (fun x hx => by rw [hx]; have := BN.out; omega))⟩)
    clear K
    have K := K2
    clear K2 r0 r1 r2 r3 r4 r5 r6
    obtain ⟨r0, r1, r2, r3, r4, r5, r6⟩ := cells7 (K.out.o)
    have ON : Hid ((#[.string ⟨#[]⟩, .string ⟨#[]⟩, .slice none 0 0, .int .i64 0, .int .i64 0, .slice none 0 0, .int .i64 0] : Array Value).all (·.oneCell') = true) := Lib.hid (by simp [Value.oneCell'])
    have N3b := N4z
    have OW := Lib.hid (ownObject_ap o _ _ X4 (HO.out.1.below K.out.be) HO.out.2.2.1 HO.out.2.2.2.1 HO.out.2.2.2.2)
    unfold Ob.val at OW
    go_wp2_with (refine wpList_store_row rfl 25 (.tmp 8) (.tmp 20) rfl b8 #[.string ⟨#[]⟩, .string ⟨#[]⟩, .slice none 0 0, .int .i64 0, .int .i64 0, .slice none 0 0, .int .i64 0] rfl rfl 25 #[.string ⟨#[]⟩, .string ⟨#[]⟩, .slice none 0 0, .int .i64 0, .int .i64 0, .slice none 0 0, .int .i64 0] N3.out size_obj rfl ON.out ?_; rw [hX4])
    clear hX9 hb9 hX4
    refine OW.out.mono ?_
    rintro e W4 ⟨v1, v2, rfl, ha, hb⟩
    have A4 := Lib.hid ha.obo.obv
    have N4 := Lib.hid (keepB N3b.out hb)
    clear OW ha N3
    have K2 := Lib.hid (KO.below K.out hb)
    clear K
    have K := K2
    clear K2
    clear r0 r1 r2 r3 r4 r5 r6
    clear hb
    have VO := Lib.hid (valido_any o v1 v2 W4 (HM.out.below K.out.be) A4.out HO.out.2.1)
    unfold Ob.val at VO
    obtain ⟨f, hf⟩ : ∃ f, f = (obR o).2 := ⟨_, rfl⟩
    rw [← hf] at VO
    have HF := Lib.hid hf
    clear hf
    go_wp2_with fail
    refine VO.out.mono ?_
    rintro e W5 ⟨rfl, hb⟩
    have N5 := Lib.hid (keepB N4.out hb)
    clear VO A4 N4
    have K2 := Lib.hid (KO.below K.out hb)
    clear K
    have K := K2
    clear K2
    clear hb
    have hf0 : f ≠ 0 := by rw [HF.out]; exact hv
    have g1 : (f != 0) = true := by rw [bne_iff_ne]; exact hf0
    have g2 : ((f : Int) != 0) = true := by rw [bne_iff_ne]; omega
    have g3 : (decide ((f : Int) = 0)) = false := decide_eq_false (by omega)
    obtain ⟨s0, s1, s2, s3, s4, s5, s6⟩ := cells7 (N5.out)
    have SY := Lib.hid (sameObject_yes Ob.z (.slice none 0 0) (.slice none 0 0) (.slice none 0 0) (.slice none 0 0) W5 (ObO.zero 0 W5).obv (ObO.zero 0 W5).obv)
    unfold Ob.val Ob.z at SY
    simp only at SY
    rcases hc with rfl | rfl
    · go_wp2_with (go_at_call 8; refine SY.out.mono ?_; rintro e W6 ⟨rfl, hb⟩; have B6 := Lib.hid hb; clear hb)
      go_ret
      exact ⟨rfl, K.out.be.trans (B6.out.mono K.out.be.size)⟩
    · go_wp2_with (go_at_call 8; refine SY.out.mono ?_; rintro e W6 ⟨rfl, hb⟩; have B6 := Lib.hid hb; clear hb)
      go_ret
      exact ⟨rfl, K.out.be.trans (B6.out.mono K.out.be.size)⟩
end Nx
end Go.Proofs.YtehgnbgbmicheaaGreatDoor
