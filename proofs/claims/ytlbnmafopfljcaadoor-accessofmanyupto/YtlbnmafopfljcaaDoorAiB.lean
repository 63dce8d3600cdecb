/-
  Of.
-/
import Derived.Test.YtlbnmafopfljcaaDoorAiA
namespace Go.Proofs.YtlbnmafopfljcaaDoor
open Go.RowKit
namespace Ac
theorem getD_inB {α : Type} {l : List α} {k : Nat} {d : α} (h : k < l.length) : l.getD k d ∈ l := by
  rw [List.getD_eq_getElem?_getD, List.getElem?_eq_getElem h]; exact List.getElem_mem h
theorem take_oneB {α : Type} (l : List α) (k : Nat) (d : α) (h : k < l.length) : l.take (k + 1) = l.take k ++ [l.getD k d] := by
  rw [List.take_add_one, List.getD_eq_getElem?_getD, List.getElem?_eq_getElem h]; rfl
theorem wf_i64 {x : Int} (h1 : -9223372036854775808 ≤ x) (h2 : x ≤ 9223372036854775807) : (Lit.int .i64 x).wf = true := by
  show (decide (IntKind.i64.min ≤ x) && decide (x ≤ IntKind.i64.max)) = true
  rw [Bool.and_eq_true]
  exact ⟨decide_eq_true (by have : IntKind.i64.min = -9223372036854775808 := rfl; omega), decide_eq_true (by have : IntKind.i64.max = 9223372036854775807 := rfl; omega)⟩
theorem isKeyB (l : List UInt8) : WideAt.IsKeyLit (.string l) := by trivial
theorem lit_ne {p p' : ByteArray} (e : ¬ p = p') : Lit.string p'.data.toList ≠ Lit.string p.data.toList := fun h => e (ByteArray.ext (Array.ext' (Lit.string.inj h).symm))
theorem make_held (w : World) : (Instr.makeMap 34 none).run Tryd.prog w = .ok (.map (some w.heap.size)) (w.alloc (.map #[] 0)) := by
  first | rfl | simp [Instr.makeMap, run_underlying Tryd.underlying34, Result.andThen]
def cntP (p : ByteArray) (M : List Bv) : Nat := (M.filter (fun y => decide (y.1.p = p))).length
theorem cntP_le (p : ByteArray) (M : List Bv) : cntP p M ≤ M.length := List.length_filter_le _ _
theorem cntP_snoc (p : ByteArray) (M : List Bv) (y : Bv) : cntP p (M ++ [y]) = cntP p M + (if y.1.p = p then 1 else 0) := by
  unfold cntP
  rw [List.filter_append, List.length_append]
  by_cases h : y.1.p = p
  · rw [if_pos h]; congr 1; simp [List.filter, h]
  · rw [if_neg h]; congr 1; simp [List.filter, h]
/-- The first K can be laid; the next has a place that is taken. -/
structure Og (M : List Bv) (K : Nat) : Prop where
  v : ∀ y ∈ M, (bdR y.1).2 = 0
  d : (M.take K).Pairwise (fun a b => kl a.1.p a.1.n ≠ kl b.1.p b.1.n)
  c : ∀ p, cntP p (M.take K) ≤ 16
  e : K < M.length → ∃ y ∈ M.take K, y.1.p = (M.getD K Bv.z).1.p ∧ y.1.n = (M.getD K Bv.z).1.n
/-- Of, behind k of them. -/
structure Oh (w0 w : World) (t b h k : Nat) (M : List Bv) : Prop where
  t : ∃ D, Ta w t b k D ∧ ∀ x, InD D x ↔ ∃ y ∈ M.take k, y.1 = x
  m : ∃ D : DataW Unit, w.ownsMap Tryd.prog 9 (plainElem Tryd.prog 3) h k D ∧ Maps.IsMap D ∧ ∀ p : ByteArray, D.atKey (.string p.data.toList) (.lit (.int .i64 0)) = .lit (.int .i64 (cntP p (M.take k)))
  be : Below w0.heap.size w0 w
theorem row_atB {w : World} {a : Option Addr} {n cap : Nat} {xs : List Bv} (H : Row kBv w (.slice a n cap) xs) (k : Nat) (hk : k < xs.length) :
    ∃ b off, a = some ⟨b, off, none⟩ ∧ w.cell? ⟨b, off + k * 4, none⟩ = some (.string (xs.getD k Bv.z).1.p) ∧ w.cell? ⟨b, off + k * 4 + 1, none⟩ = some (.string (xs.getD k Bv.z).1.n) ∧ w.cell? ⟨b, off + k * 4 + 2, none⟩ = some (.string (xs.getD k Bv.z).1.s) ∧ w.cell? ⟨b, off + k * 4 + 3, none⟩ = some (.int .i64 (xs.getD k Bv.z).1.v) := by
  obtain ⟨b, off, ea, h⟩ := H.at k hk
  exact ⟨b, off, ea, h 0 _ rfl, h 1 _ rfl, h 2 _ rfl, h 3 _ rfl⟩
theorem Oh.start {w0 w : World} {t b : Nat} (M : List Bv) (H : Tb w t b 0 (.map [])) (hm : L.HasM w) (be : Below w0.heap.size w0 w) : Oh w0 (w.alloc (.map #[] 0)) t b w.heap.size 0 M := by
  have hbl : Below w.heap.size w (w.alloc (.map #[] 0)) := (Below.refl _ w).alloc (Nat.le_refl _) _
  refine ⟨⟨_, ⟨H.below hbl, hm.below hbl⟩, fun x => ⟨fun h => ?_, fun h => by simp at h⟩⟩, ⟨_, World.ownsMap_made w _ _ _, Maps.isMap_empty, fun p => ?_⟩, be.trans (hbl.mono be.size)⟩
  · have e1 := h.1 (.lit (.bool true))
    have e2 := h.1 (.map [])
    have f : ∀ z : DataW Unit, (DataW.map [] : DataW Unit).atKey (kl x.p x.n) z = z := fun z => rfl
    rw [f] at e1 e2
    rw [← e2] at e1
    simp at e1
  · rw [List.take_zero]; rfl
/-- What Of answers. -/
def OfP (w : World) (M : List Bv) (K : Nat) (e : Ending) (w' : World) : Prop :=
  Below w.heap.size w w' ∧ ((M.length ≤ K ∧ ∃ t b n D, e = .returned (.tuple #[.pointer (some ⟨t, 0, none⟩), .int .i64 0]) ∧ Ta w' t b n D ∧ n ≤ M.length ∧ w.heap.size ≤ b ∧ ∀ x, InD D x ↔ ∃ y ∈ M, y.1 = x) ∨ (K < M.length ∧ e = .returned (.tuple #[.pointer none, .int .i64 190])))
set_option maxHeartbeats 8000000 in
set_option maxRecDepth 100000 in
theorem of_any (M : List Bv) (K : Nat) (v : Value) (w : World) (hm : L.HasM w) (H : Row kBv w v M) (hg : Og M K) (hl : M.length ≤ 1000) :
    Calls Tryd.prog 4 #[v] w (OfP w M K) := by
  have V := Lib.hid H
  have HM := Lib.hid hm
  have GG := Lib.hid hg
  obtain ⟨a, cap, rfl, hlc, hcm⟩ := H.len
  unfold maxLen at hcm
  obtain ⟨n, hn⟩ : ∃ n, n = M.length := ⟨_, rfl⟩
  rw [← hn] at hlc V hl ⊢
  have HN := Lib.hid hn
  have NW := Lib.hid (new_any w)
  have hmm := make_held
  clear H hm hg hn
  go_enter Tryd.func4, Tryd.ntmps4
  go_wp2_with fail
  refine NW.out.mono ?_
  rintro e w1 ⟨t, b, rfl, hT, ht, hb, hbe⟩
  obtain ⟨h, hh⟩ : ∃ h, h = w1.heap.size := ⟨_, rfl⟩
  obtain ⟨W, hW⟩ : ∃ W, W = w1.alloc (.map #[] 0) := ⟨_, rfl⟩
  have OS : Hid (Oh w W t b h 0 M) := Lib.hid (by rw [hW, hh]; exact Oh.start M hT (HM.out.below hbe) hbe)
  have LB : Hid (w.heap.size ≤ b ∧ w.heap.size ≤ h ∧ b < h ∧ t < h) := Lib.hid ⟨hb, by rw [hh]; exact hbe.size, by rw [hh]; obtain ⟨es, c, q⟩ := hT.map; exact lt_of_some q, by rw [hh]; exact lt_of_some hT.t⟩
  have hh' := hh.symm
  have hW' := hW.symm
  clear hh hW hT ht hb hbe NW
  go_wp2_with fail
  go_loopg [12] n (fun gk si wr => ∃ k : Nat, k ≤ n ∧ gk = n - k ∧ si = .int .i64 k ∧ Hid (Oh w wr t b h k M ∧ k ≤ K))
  case atStart => exact ⟨0, Nat.zero_le _, rfl, rfl, Lib.hid ⟨OS.out, Nat.zero_le _⟩⟩
  case round =>
    obtain ⟨k, hk, hgk, rfl, R⟩ := hrel
    have G := Lib.hid hgk
    clear hgk OS
    by_cases hlt : k < n
    · have hlt' : (k : Int) < (n : Int) := by omega
      have hkl : k < M.length := by rw [← HN.out]; exact hlt
      obtain ⟨bb, off, rfl, c0, c1, c2, c3⟩ := row_atB (V.out.below R.out.1.be) k hkl
      have VX := Lib.hid (GG.out.v _ (getD_inB (d := Bv.z) hkl))
      have TK : Hid (M.take (k + 1) = M.take k ++ [M.getD k Bv.z]) := Lib.hid (take_oneB M k Bv.z hkl)
      obtain ⟨Dt, hTa, hIn⟩ := R.out.1.t
      obtain ⟨Dh, hOm, hIs, hAt⟩ := R.out.1.m
      have TA := Lib.hid (And.intro hTa hIn)
      have MA := Lib.hid (And.intro hOm (And.intro hIs hAt))
      clear hTa hIn hOm hIs hAt
      obtain ⟨y, hy⟩ : ∃ y, y = M.getD k Bv.z := ⟨_, rfl⟩
      have HY := Lib.hid hy
      rw [← hy] at c0 c1 c2 c3 VX TK
      clear hy
      obtain ⟨x, hx⟩ : ∃ x : Bd, y.1 = x := ⟨_, rfl⟩
      have YX := Lib.hid hx
      rw [hx] at c0 c1 c2 c3 VX
      clear hx
      obtain ⟨p, q, s, m⟩ := x
      simp only at c0 c1 c2 c3
      have FI := Lib.hid (bd_fit VX.out)
      have KM := Lib.hid (bd_max VX.out)
      obtain ⟨g3, hg3⟩ : ∃ g, g = wr.heap.size := ⟨_, rfl⟩
      obtain ⟨X, hX⟩ : ∃ X, X = wr.alloc (.cells #[.string p, .string q, .string s, .int .i64 m] 36) := ⟨_, rfl⟩
      have AX : Hid (Below wr.heap.size wr X ∧ X.heap[g3]? = some (.cells #[.string p, .string q, .string s, .int .i64 m] 36 (0, 0))) := Lib.hid ⟨by rw [hX]; exact (Below.refl _ _).alloc (Nat.le_refl _) _, by rw [hX, hg3, heap_alloc_new]⟩
      have CX : Hid (∀ W, Below X.heap.size X W → W.cell? ⟨g3, 0, none⟩ = some (.string p) ∧ W.cell? ⟨g3, 1, none⟩ = some (.string q) ∧ W.cell? ⟨g3, 2, none⟩ = some (.string s) ∧ W.cell? ⟨g3, 3, none⟩ = some (.int .i64 m) ∧ Ta W t b k Dt ∧ W.ownsMap Tryd.prog 9 (plainElem Tryd.prog 3) h k Dh ∧ Below w.heap.size w W) := Lib.hid fun W hbb => by
        have hB : W.heap[g3]? = some (.cells #[.string p, .string q, .string s, .int .i64 m] 36 (0, 0)) := (hbb.block g3 (lt_of_some AX.out.2)).trans AX.out.2
        have hb1 := AX.out.1.trans (hbb.mono AX.out.1.size)
        refine ⟨cell_of_row _ _ 0 _ _ _ hB, cell_of_row _ _ 1 _ _ _ hB, cell_of_row _ _ 2 _ _ _ hB, cell_of_row _ _ 3 _ _ _ hB, TA.out.1.below hb1, ?_, R.out.1.be.trans (hb1.mono R.out.1.be.size)⟩
        exact MA.out.1.kept (row := none) ⟨hb1.os, hb1.tape, hb1.output, hb1.size, fun j hj _ => hb1.block j hj⟩ (by simp)
      obtain ⟨x0, x1, x2, x3, -, -, -⟩ := CX.out X (Below.refl _ _)
      have VB := Lib.hid (validB_any ⟨p, q, s, m⟩ X (CX.out X (Below.refl _ _)).2.2.2.2.1.hm FI.out.1)
      rw [VX.out] at VB
      unfold Bd.val at VB
      simp only at VB
      have hX' := hX.symm
      have hg3' := hg3.symm
      clear hX hg3
      go_wp2_with fail
      refine VB.out.mono ?_
      rintro e w2 ⟨rfl, hb2⟩
      have B2 := Lib.hid hb2
      obtain ⟨y0, y1, -, -, -, -, -⟩ := CX.out w2 hb2
      have HA := Lib.hid (has_any p q w2 t b k Dt (CX.out w2 hb2).2.2.2.2.1.tb KM.out.1 KM.out.2)
      have HI := Lib.hid (has_iff (CX.out w2 hb2).2.2.2.2.1 KM.out.1 KM.out.2)
      clear hb2 VB x0 x1 x2 x3
      by_cases hkK : k < K
      · have HF : Hid (Maps.has Dt (kl p q) = false) := Lib.hid (by
          cases hc : Maps.has Dt (kl p q) with
          | false => rfl
          | true =>
            obtain ⟨s', v', hx⟩ := HI.out.1 hc
            obtain ⟨z, hz, ez⟩ := (TA.out.2 _).1 hx
            have hd := GG.out.d
            rw [show K = (k + 1) + (K - (k + 1)) by omega, List.take_add, List.pairwise_append] at hd
            have hd1 := hd.1
            rw [TK.out, List.pairwise_append] at hd1
            have := hd1.2.2 z hz y (by simp)
            rw [ez, YX.out] at this
            exact absurd rfl this)
        rw [HF.out] at HA
        have CT : Hid (cntP p (M.take k) < 16) := Lib.hid (by
          have h1 := GG.out.c p
          have h2 : cntP p (M.take (k + 1)) ≤ cntP p (M.take K) := by
            unfold cntP
            exact List.Sublist.length_le (List.Sublist.filter _ (by rw [show M.take (k + 1) = (M.take K).take (k + 1) by rw [List.take_take, Nat.min_eq_left (by omega)]]; exact List.take_sublist _ _))
          rw [TK.out, cntP_snoc, YX.out, if_pos rfl] at h2
          omega)
        have AT := Lib.hid (MA.out.2.2 p)
        obtain ⟨ct, hct⟩ : ∃ ct, ct = cntP p (M.take k) := ⟨_, rfl⟩
        rw [← hct] at CT AT
        have HC := Lib.hid hct
        have hc16 : ct < 16 := CT.out
        have KY := Lib.hid (WideMaps.keyOf_string_mk (P := Tryd.prog) Tryd.underlying9 KM.out.1)
        clear hct
        go_wp2_with fail
        refine HA.out.mono ?_
        rintro e w3 ⟨rfl, hb3⟩
        have B3 := Lib.hid (B2.out.trans (hb3.mono B2.out.size))
        obtain ⟨z0, z1, z2, z3, -, -, -⟩ := CX.out w3 B3.out
        have O3 := Lib.hid (CX.out w3 B3.out).2.2.2.2.2.1
        clear hb3 HA HI y0 y1
        have LY := Lib.hid (lay_any ⟨p, q, s, m⟩ w3 t b k Dt (CX.out w3 B3.out).2.2.2.2.1.tb (by omega) FI.out.1)
        unfold Bd.val at LY
        simp only at LY
        go_wp2_with (at_lookup; refine wpList_lookup_own_int _ rfl _ _ 34 rfl 9 3 .i64 L.law Tryd.underlying34 Tryd.underlying3 (L.zeroE _) h k Dh rfl O3.out _ _ rfl KY.out ?_; intro cc hat hwc; obtain rfl : cc = (ct : Int) := (by rw [AT.out] at hat; simpa using hat.symm); clear hat hwc)
        refine LY.out.mono ?_
        rintro e w4 ⟨rfl, hT4, hk4⟩
        have K4 : Hid (Ta w4 t b (k + 1) (Dt.put (kl p q) (eR s m)) ∧ Kept (fun y => y = b) w3 w4 ∧ w4.ownsMap Tryd.prog 9 (plainElem Tryd.prog 3) h k Dh ∧ w4.heap[g3]? = some (.cells #[.string p, .string q, .string s, .int .i64 m] 36 (0, 0))) := Lib.hid (by
          have hT3 := (CX.out w3 B3.out).2.2.2.2.1
          have hg3b : X.heap[g3]? = _ := AX.out.2
          have hgb : g3 ≠ b := fun e => by
            obtain ⟨es, c, q'⟩ := TA.out.1.tb.map
            have := (AX.out.1.block b (lt_of_some q')).trans q'
            rw [← e, AX.out.2] at this
            simp at this
          refine ⟨⟨hT4, hm_kept hT3.hm hk4 hT3.tb.map⟩, hk4, ?_, ?_⟩
          · have := LB.out
            obtain ⟨es, c, q'⟩ := (show ∃ es c, w3.heap[h]? = some (.map es c) from by obtain ⟨es, c, h1, _⟩ := O3.out; exact ⟨es, c, h1⟩)
            exact O3.out.kept (row := some b) ⟨hk4.os, hk4.tape, hk4.output, hk4.size, fun j hj hn => hk4.block j hj (fun e => hn (by rw [e]))⟩ (by simp; omega)
          · exact (hk4.block g3 (lt_of_some ((B3.out.block g3 (lt_of_some hg3b)).trans hg3b)) hgb).trans ((B3.out.block g3 (lt_of_some hg3b)).trans hg3b))
        have u0 : w4.cell? ⟨g3, 0, none⟩ = some (.string p) := cell_of_row _ _ 0 _ _ _ K4.out.2.2.2
        clear hT4 hk4 LY z0 z1 z2 z3
        have hw1 : IntKind.i64.wrap ((ct : Int) + 1) = (ct : Int) + 1 := by rw [IntKind.wrap_i64]; omega
        have PI : Hid (plainElem (H := Unit) Tryd.prog 3 (.int .i64 ((ct : Int) + 1)) = some (.lit (.int .i64 ((ct : Int) + 1)), [])) := Lib.hid (plainElem_int Tryd.underlying3 (wf_i64 (by omega) (by omega)))
        have KN : Hid (k < maxLen) := Lib.hid (by unfold maxLen; omega)
        go_wp2_with (first
          | (at_lookup; refine wpList_lookup_own_int _ rfl _ _ 34 rfl 9 3 .i64 L.law Tryd.underlying34 Tryd.underlying3 (L.zeroE _) h k Dh rfl K4.out.2.2.1 _ _ rfl KY.out ?_; intro cc hat hwc; obtain rfl : cc = (ct : Int) := (by rw [AT.out] at hat; simpa using hat.symm); clear hat hwc)
          | (at_mapUpdate; refine wpList_mapUpdate_own _ rfl _ _ _ 34 rfl 9 3 L.law Tryd.underlying34 (plainElem Tryd.prog 3) h k Dh rfl K4.out.2.2.1 KN.out _ _ _ rfl rfl KY.out _ _ PI.out ?_; intro w5 hown5 hgr5))
        have FN : Hid (Oh w w5 t b h (k + 1) M) := Lib.hid (by
          have hB4 := K4.out
          have hbh : b ≠ h := by have := LB.out; omega
          have hth : t ≠ h := by have := LB.out; omega
          have k5 : Kept (fun y => y = h) w4 w5 := (grown_kept hgr5).mono (fun y _ e => Option.some.inj e)
          refine ⟨⟨_, ⟨hB4.1.tb.kept k5 hth hbh, hm_kept hB4.1.hm k5 (by obtain ⟨es, c, h1, _⟩ := hB4.2.2.1; exact ⟨es, c, h1⟩)⟩, fun x => ?_⟩, ⟨_, hown5, MA.out.2.1.put _ _, fun p' => ?_⟩, ?_⟩
          · rw [InD.put (y := ⟨p, q, s, m⟩) TA.out.1.tb.m.isMap KM.out.1 KM.out.2, TA.out.2, TK.out]
            constructor
            · rintro (rfl | ⟨⟨z, hz, rfl⟩, -⟩)
              · exact ⟨y, by simp, YX.out⟩
              · exact ⟨z, by simp [hz], rfl⟩
            · rintro ⟨z, hz, rfl⟩
              rcases List.mem_append.1 hz with hz | hz
              · refine Or.inr ⟨⟨z, hz, rfl⟩, fun e => ?_⟩
                have : Maps.has Dt (kl p q) = true := by
                  have hx : InD Dt z.1 := (TA.out.2 _).2 ⟨z, hz, rfl⟩
                  simp only at e
                  have := Maps.has_true_of_atKey (fun zz => hx.1 zz)
                  rw [e.1, e.2] at this
                  exact this
                rw [HF.out] at this
                simp at this
              · rw [List.mem_singleton] at hz
                exact Or.inl (by rw [hz, YX.out])
          · rw [TK.out, cntP_snoc, YX.out]
            by_cases e : p = p'
            · subst e
              rw [Maps.atKey_put_same MA.out.2.1 (isKeyB _), if_pos rfl, ← HC.out]
              simp
            · have hne := lit_ne e
              rw [Maps.atKey_put_other hne, MA.out.2.2 p', if_neg e, Nat.add_zero]
          · have h3 := (CX.out w3 B3.out).2.2.2.2.2.2
            have := LB.out
            exact (h3.trans (hB4.2.1.below h3.size (fun x e => by rw [e]; omega))).trans (k5.below (Nat.le_trans h3.size hB4.2.1.size) (fun x e => by rw [e]; omega)))
        clear hown5 hgr5
        go_wp2_with fail
        go_roundg (n - (k + 1))
        case measure => have := G.out; omega
        case rel => exact ⟨k + 1, by omega, rfl, by go_num, Lib.hid ⟨FN.out, by omega⟩⟩
      · have HT : Hid (Maps.has Dt (kl p q) = true ∧ K < n) := Lib.hid (by
          have e : K = k := by have := R.out.2; omega
          refine ⟨?_, by omega⟩
          obtain ⟨z, hz, e1, e2⟩ := GG.out.e (by rw [← HN.out]; omega)
          rw [e, ← HY.out, YX.out] at e1 e2
          rw [e] at hz
          simp only at e1 e2
          refine HI.out.2 ⟨z.1.s, z.1.v, ?_⟩
          have hx : InD Dt z.1 := (TA.out.2 _).2 ⟨z, hz, rfl⟩
          rw [← e1, ← e2]
          exact hx)
        rw [HT.out.1] at HA
        go_wp2_with fail
        refine HA.out.mono ?_
        rintro e w3 ⟨rfl, hb3⟩
        have B3 := Lib.hid (CX.out w3 (B2.out.trans (hb3.mono B2.out.size))).2.2.2.2.2.2
        clear hb3 HA
        go_wp2_with fail
        go_ret2
        exact ⟨B3.out, Or.inr ⟨by rw [← HN.out]; exact HT.out.2, rfl⟩⟩
    · have E : Hid (k = n) := Lib.hid (by omega)
      go_wp2_with fail
      go_ret2
      obtain ⟨D, hT, hI⟩ := R.out.1.t
      refine ⟨R.out.1.be, Or.inl ⟨by have := R.out.2; have := HN.out; omega, t, b, k, D, rfl, hT, by have := HN.out; omega, LB.out.1, fun x => ?_⟩⟩
      rw [hI, List.take_of_length_le (by have := HN.out; have := E.out; omega)]
end Ac
end Go.Proofs.YtlbnmafopfljcaaDoor
