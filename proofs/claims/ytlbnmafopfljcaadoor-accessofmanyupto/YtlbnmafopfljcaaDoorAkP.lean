/-
  Of, of any list of bindings.
-/
import Derived.Test.YtlbnmafopfljcaaDoorAkA
import Derived.Test.YtlbnmafopfljcaaDoorAcX
namespace Go.Proofs.YtlbnmafopfljcaaDoor
open Go.RowKit
namespace Ac
theorem wf_i64 {x : Int} (h1 : -9223372036854775808 ≤ x) (h2 : x ≤ 9223372036854775807) : (Lit.int .i64 x).wf = true := by
  show (decide (IntKind.i64.min ≤ x) && decide (x ≤ IntKind.i64.max)) = true
  rw [Bool.and_eq_true]
  exact ⟨decide_eq_true (by have : IntKind.i64.min = -9223372036854775808 := rfl; omega), decide_eq_true (by have : IntKind.i64.max = 9223372036854775807 := rfl; omega)⟩
theorem isKeyB (l : List UInt8) : WideAt.IsKeyLit (.string l) := by trivial
theorem lit_ne {p p' : ByteArray} (e : ¬ p = p') : Lit.string p'.data.toList ≠ Lit.string p.data.toList := fun h => e (ByteArray.ext (Array.ext' (Lit.string.inj h).symm))
theorem make_held (w : World) : (Instr.makeMap 34 none).run Tryd.prog w = .ok (.map (some w.heap.size)) (w.alloc (.map #[] 0)) := by
  first | rfl | simp [Instr.makeMap, run_underlying Tryd.underlying34, Result.andThen]
def Bd.c (x : Bd) : List Value := [.string x.p, .string x.n, .string x.s, .int .i64 x.v]
/-- Bindings as they come, be they valid or not. -/
def kBr : Kd Bd := ⟨Bd.c, 4, 36, 22, 56, Bd.z⟩
theorem okBr : kBr.Ok := ⟨fun _ => rfl, by decide, fun x u hu => by simp only [kBr, Bd.c, List.mem_cons, List.not_mem_nil, or_false] at hu; rcases hu with rfl | rfl | rfl | rfl <;> rfl, Tryd.underlying22, ⟨_, (by kernel_rfl : (Tryd.prog.info? 36).map (fun i => (i.zero, i.size, i.bytes)) = some (some (.agg #[.string ⟨#[]⟩, .string ⟨#[]⟩, .string ⟨#[]⟩, .int .i64 0]), 4, 56)), rfl⟩, by decide⟩
theorem row_atR {w : World} {a : Option Addr} {n cap : Nat} {xs : List Bd} (H : Row kBr w (.slice a n cap) xs) (k : Nat) (hk : k < xs.length) :
    ∃ b off, a = some ⟨b, off, none⟩ ∧ w.cell? ⟨b, off + k * 4, none⟩ = some (.string (xs.getD k Bd.z).p) ∧ w.cell? ⟨b, off + k * 4 + 1, none⟩ = some (.string (xs.getD k Bd.z).n) ∧ w.cell? ⟨b, off + k * 4 + 2, none⟩ = some (.string (xs.getD k Bd.z).s) ∧ w.cell? ⟨b, off + k * 4 + 3, none⟩ = some (.int .i64 (xs.getD k Bd.z).v) := by
  obtain ⟨b, off, ea, h⟩ := H.at k hk
  exact ⟨b, off, ea, h 0 _ rfl, h 1 _ rfl, h 2 _ rfl, h 3 _ rfl⟩
def hasL (P : List Bd) (x : Bd) : Prop := ∃ y ∈ P, y.p = x.p ∧ y.n = x.n
def cntL (p : ByteArray) (P : List Bd) : Nat := (P.filter (fun y => decide (y.p = p))).length
theorem cntL_le (p : ByteArray) (P : List Bd) : cntL p P ≤ P.length := List.length_filter_le _ _
theorem cntL_snoc (p : ByteArray) (P : List Bd) (y : Bd) : cntL p (P ++ [y]) = cntL p P + (if y.p = p then 1 else 0) := by
  unfold cntL
  rw [List.filter_append, List.length_append]
  by_cases h : y.p = p
  · rw [if_pos h]; congr 1; simp [List.filter, h]
  · rw [if_neg h]; congr 1; simp [List.filter, h]
/-- What becomes of x behind P. -/
def Stp (P : List Bd) (x : Bd) (e : Nat) : Prop :=
  (bdS x = false ∧ e = 130) ∨ (bdS x = true ∧ hasL P x ∧ e = 190) ∨ (bdS x = true ∧ ¬ hasL P x ∧ 16 ≤ cntL x.p P ∧ e = 194) ∨ (bdS x = true ∧ ¬ hasL P x ∧ cntL x.p P < 16 ∧ e = 0)
theorem Stp.one {P : List Bd} {x : Bd} {e e' : Nat} (h : Stp P x e) (h' : Stp P x e') : e = e' := by
  rcases h with ⟨a, b⟩ | ⟨a, c, b⟩ | ⟨a, c, d, b⟩ | ⟨a, c, d, b⟩ <;> rcases h' with ⟨a', b'⟩ | ⟨a', c', b'⟩ | ⟨a', c', d', b'⟩ | ⟨a', c', d', b'⟩
  all_goals first
    | omega
    | (rw [a] at a'; exact absurd a' (by decide))
    | exact absurd c' c
    | exact absurd c c'
/-- The first k can be laid; what stops behind them. -/
structure OfR (M : List Bd) (k e : Nat) : Prop where
  o : ∀ j, j < k → Stp (M.take j) (M.getD j Bd.z) 0
  s : (k = M.length ∧ e = 0) ∨ (k < M.length ∧ Stp (M.take k) (M.getD k Bd.z) e ∧ e ≠ 0)
theorem OfR.one {M : List Bd} {k e k' e' : Nat} (h : OfR M k e) (h' : OfR M k' e') : k = k' ∧ e = e' := by
  have lt : ∀ {a b ea eb : Nat}, OfR M a ea → OfR M b eb → ¬ a < b := fun {a b ea eb} ha hb q => by
    have o := hb.o a q
    rcases ha.s with ⟨s1, _⟩ | ⟨_, s2, s3⟩
    · rcases hb.s with ⟨s4, _⟩ | ⟨s4, _⟩ <;> omega
    · exact s3 (s2.one o)
  have ek : k = k' := by have a := lt h h'; have b := lt h' h; omega
  subst ek
  refine ⟨rfl, ?_⟩
  rcases h.s with ⟨s1, s2⟩ | ⟨s1, s2, s3⟩ <;> rcases h'.s with ⟨t1, t2⟩ | ⟨t1, t2, t3⟩
  · omega
  · omega
  · omega
  · exact s2.one t2
theorem take_oneR {α : Type} (l : List α) (k : Nat) (d : α) (h : k < l.length) : l.take (k + 1) = l.take k ++ [l.getD k d] := by
  rw [List.take_add_one, List.getD_eq_getElem?_getD, List.getElem?_eq_getElem h]; rfl
theorem getD_inR {α : Type} {l : List α} {k : Nat} {d : α} (h : k < l.length) : l.getD k d ∈ l := by
  rw [List.getD_eq_getElem?_getD, List.getElem?_eq_getElem h]; exact List.getElem_mem h
/-- Of, behind k of them. -/
structure Oq (w0 w : World) (t b h k : Nat) (M : List Bd) : Prop where
  t : ∃ D, Ta w t b k D ∧ ∀ x, InD D x ↔ x ∈ M.take k
  m : ∃ D : DataW Unit, w.ownsMap Tryd.prog 9 (plainElem Tryd.prog 3) h k D ∧ Maps.IsMap D ∧ ∀ p : ByteArray, D.atKey (.string p.data.toList) (.lit (.int .i64 0)) = .lit (.int .i64 (cntL p (M.take k)))
  be : Below w0.heap.size w0 w
  o : ∀ j, j < k → Stp (M.take j) (M.getD j Bd.z) 0
theorem Oq.start {w0 w : World} {t b : Nat} (M : List Bd) (H : Tb w t b 0 (.map [])) (hm : L.HasM w) (be : Below w0.heap.size w0 w) : Oq w0 (w.alloc (.map #[] 0)) t b w.heap.size 0 M := by
  have hbl : Below w.heap.size w (w.alloc (.map #[] 0)) := (Below.refl _ w).alloc (Nat.le_refl _) _
  refine ⟨⟨_, ⟨H.below hbl, hm.below hbl⟩, fun x => ⟨fun h => ?_, fun h => by simp at h⟩⟩, ⟨_, World.ownsMap_made w _ _ _, Maps.isMap_empty, fun p => ?_⟩, be.trans (hbl.mono be.size), fun j h => by omega⟩
  · have e1 := h.1 (.lit (.bool true))
    have e2 := h.1 (.map [])
    have f : ∀ z : DataW Unit, (DataW.map [] : DataW Unit).atKey (kl x.p x.n) z = z := fun z => rfl
    rw [f] at e1 e2
    rw [← e2] at e1
    simp at e1
  · rw [List.take_zero]; rfl
/-- What Of answers. -/
def OfQ (w : World) (M : List Bd) (e : Ending) (w' : World) : Prop :=
  Below w.heap.size w w' ∧ ∃ k c, OfR M k c ∧ ((c ≠ 0 ∧ e = .returned (.tuple #[.pointer none, .int .i64 (c : Nat)])) ∨ (c = 0 ∧ ∃ t b n D, e = .returned (.tuple #[.pointer (some ⟨t, 0, none⟩), .int .i64 0]) ∧ Ta w' t b n D ∧ n ≤ M.length ∧ w.heap.size ≤ b ∧ ∀ x, InD D x ↔ x ∈ M))
set_option maxHeartbeats 8000000 in
set_option maxRecDepth 100000 in
theorem of_all (M : List Bd) (v : Value) (w : World) (hm : L.HasM w) (H : Row kBr w v M) (hf : ∀ x ∈ M, x.Fit) (hl : M.length ≤ 1000000) :
    Calls Tryd.prog 4 #[v] w (OfQ w M) := by
  have V := Lib.hid H
  have HM := Lib.hid hm
  have FF := Lib.hid hf
  obtain ⟨a, cap, rfl, hlc, hcm⟩ := H.len
  unfold maxLen at hcm
  obtain ⟨n, hn⟩ : ∃ n, n = M.length := ⟨_, rfl⟩
  rw [← hn] at hlc V hl ⊢
  have HN := Lib.hid hn
  have NW := Lib.hid (new_any w)
  have hmm := make_held
  clear H hm hf hn
  go_enter Tryd.func4, Tryd.ntmps4
  go_wp2_with fail
  refine NW.out.mono ?_
  rintro e w1 ⟨t, b, rfl, hT, ht, hb, hbe⟩
  obtain ⟨h, hh⟩ : ∃ h, h = w1.heap.size := ⟨_, rfl⟩
  obtain ⟨W, hW⟩ : ∃ W, W = w1.alloc (.map #[] 0) := ⟨_, rfl⟩
  have OS : Hid (Oq w W t b h 0 M) := Lib.hid (by rw [hW, hh]; exact Oq.start M hT (HM.out.below hbe) hbe)
  have LB : Hid (w.heap.size ≤ b ∧ w.heap.size ≤ h ∧ b < h ∧ t < h) := Lib.hid ⟨hb, by rw [hh]; exact hbe.size, by rw [hh]; obtain ⟨es, c, q⟩ := hT.map; exact lt_of_some q, by rw [hh]; exact lt_of_some hT.t⟩
  have hh' := hh.symm
  have hW' := hW.symm
  clear hh hW hT ht hb hbe NW
  go_wp2_with fail
  go_loopg [12] n (fun gk si wr => ∃ k : Nat, k ≤ n ∧ gk = n - k ∧ si = .int .i64 k ∧ Hid (Oq w wr t b h k M))
  case atStart => exact ⟨0, Nat.zero_le _, rfl, rfl, OS⟩
  case round =>
    obtain ⟨k, hk, hgk, rfl, R⟩ := hrel
    have G := Lib.hid hgk
    clear hgk OS
    by_cases hlt : k < n
    · have hlt' : (k : Int) < (n : Int) := by omega
      have hkl : k < M.length := by rw [← HN.out]; exact hlt
      obtain ⟨bb, off, rfl, c0, c1, c2, c3⟩ := row_atR (V.out.below R.out.be) k hkl
      have FX := Lib.hid (FF.out _ (getD_inR (d := Bd.z) hkl))
      have TK : Hid (M.take (k + 1) = M.take k ++ [M.getD k Bd.z]) := Lib.hid (take_oneR M k Bd.z hkl)
      obtain ⟨Dt, hTa, hIn⟩ := R.out.t
      obtain ⟨Dh, hOm, hIs, hAt⟩ := R.out.m
      have TA := Lib.hid (And.intro hTa hIn)
      have MA := Lib.hid (And.intro hOm (And.intro hIs hAt))
      clear hTa hIn hOm hIs hAt
      obtain ⟨y, hy⟩ : ∃ y, y = M.getD k Bd.z := ⟨_, rfl⟩
      have HY := Lib.hid hy
      rw [← hy] at c0 c1 c2 c3 FX TK
      clear hy
      obtain ⟨p, q, s, m⟩ := y
      simp only at c0 c1 c2 c3
      obtain ⟨g3, hg3⟩ : ∃ g, g = wr.heap.size := ⟨_, rfl⟩
      obtain ⟨X, hX⟩ : ∃ X, X = wr.alloc (.cells #[.string p, .string q, .string s, .int .i64 m] 36) := ⟨_, rfl⟩
      have AX : Hid (Below wr.heap.size wr X ∧ X.heap[g3]? = some (.cells #[.string p, .string q, .string s, .int .i64 m] 36 (0, 0))) := Lib.hid ⟨by rw [hX]; exact (Below.refl _ _).alloc (Nat.le_refl _) _, by rw [hX, hg3, heap_alloc_new]⟩
      have CX : Hid (∀ W, Below X.heap.size X W → W.cell? ⟨g3, 0, none⟩ = some (.string p) ∧ W.cell? ⟨g3, 1, none⟩ = some (.string q) ∧ W.cell? ⟨g3, 2, none⟩ = some (.string s) ∧ W.cell? ⟨g3, 3, none⟩ = some (.int .i64 m) ∧ Ta W t b k Dt ∧ W.ownsMap Tryd.prog 9 (plainElem Tryd.prog 3) h k Dh ∧ Below w.heap.size w W) := Lib.hid fun W hbb => by
        have hB : W.heap[g3]? = some (.cells #[.string p, .string q, .string s, .int .i64 m] 36 (0, 0)) := (hbb.block g3 (lt_of_some AX.out.2)).trans AX.out.2
        have hb1 := AX.out.1.trans (hbb.mono AX.out.1.size)
        refine ⟨cell_of_row _ _ 0 _ _ _ hB, cell_of_row _ _ 1 _ _ _ hB, cell_of_row _ _ 2 _ _ _ hB, cell_of_row _ _ 3 _ _ _ hB, TA.out.1.below hb1, ?_, R.out.be.trans (hb1.mono R.out.be.size)⟩
        exact MA.out.1.kept (row := none) ⟨hb1.os, hb1.tape, hb1.output, hb1.size, fun j hj _ => hb1.block j hj⟩ (by simp)
      obtain ⟨x0, x1, x2, x3, -, -, -⟩ := CX.out X (Below.refl _ _)
      have VB := Lib.hid (validB_any ⟨p, q, s, m⟩ X (CX.out X (Below.refl _ _)).2.2.2.2.1.hm FX.out)
      unfold Bd.val at VB
      simp only at VB
      have hX' := hX.symm
      have hg3' := hg3.symm
      clear hX hg3
      cases hS : bdS ⟨p, q, s, m⟩ with
      | false => as_aux_lemma =>
        have e130 : (bdR ⟨p, q, s, m⟩).2 = 130 := by unfold bdR; rw [hS]; rfl
        rw [e130] at VB
        have OE : Hid (OfR M k 130) := Lib.hid ⟨R.out.o, Or.inr ⟨hkl, Or.inl ⟨by rw [← HY.out]; exact hS, rfl⟩, by decide⟩⟩
        clear hS e130
        go_wp2_with fail
        refine VB.out.mono ?_
        rintro e w2 ⟨rfl, hb2⟩
        have B2 := Lib.hid (CX.out w2 hb2).2.2.2.2.2.2
        clear hb2 VB
        go_wp2_with fail
        go_ret2
        exact ⟨B2.out, k, 130, OE.out, Or.inl ⟨by decide, rfl⟩⟩
      | true =>
      have e0 : (bdR ⟨p, q, s, m⟩).2 = 0 := (bd_code _).2 hS
      rw [e0] at VB
      have FI := Lib.hid (bd_fit e0)
      have KM := Lib.hid (bd_max e0)
      have SS := Lib.hid hS
      clear hS e0
      go_wp2_with fail
      refine VB.out.mono ?_
      rintro e w2 ⟨rfl, hb2⟩
      have B2 := Lib.hid hb2
      obtain ⟨y0, y1, -, -, -, -, -⟩ := CX.out w2 hb2
      have HA := Lib.hid (has_any p q w2 t b k Dt (CX.out w2 hb2).2.2.2.2.1.tb KM.out.1 KM.out.2)
      have HI := Lib.hid (has_iff (CX.out w2 hb2).2.2.2.2.1 KM.out.1 KM.out.2)
      clear hb2 VB x0 x1 x2 x3
      have HL : Hid (Maps.has Dt (kl p q) = true ↔ hasL (M.take k) ⟨p, q, s, m⟩) := Lib.hid (by
        rw [HI.out]
        constructor
        · rintro ⟨s', v', hx⟩
          exact ⟨_, (TA.out.2 _).1 hx, rfl, rfl⟩
        · rintro ⟨⟨zp, zn, zs, zv⟩, hz, e1, e2⟩
          simp only at e1 e2
          rw [← e1, ← e2]
          exact ⟨zs, zv, (TA.out.2 _).2 hz⟩)
      cases hh : Maps.has Dt (kl p q) with
      | true => as_aux_lemma =>
        rw [hh] at HA
        have OE : Hid (OfR M k 190) := Lib.hid ⟨R.out.o, Or.inr ⟨hkl, Or.inr (Or.inl ⟨by rw [← HY.out]; exact SS.out, by rw [← HY.out]; exact HL.out.1 hh, rfl⟩), by decide⟩⟩
        clear hh
        go_wp2_with fail
        refine HA.out.mono ?_
        rintro e w3 ⟨rfl, hb3⟩
        have B3 := Lib.hid (CX.out w3 (B2.out.trans (hb3.mono B2.out.size))).2.2.2.2.2.2
        clear hb3 HA
        go_wp2_with fail
        go_ret2
        exact ⟨B3.out, k, 190, OE.out, Or.inl ⟨by decide, rfl⟩⟩
      | false =>
        have HN2 : Hid (¬ hasL (M.take k) ⟨p, q, s, m⟩) := Lib.hid (fun h => by rw [HL.out.2 h] at hh; exact absurd hh (by decide))
        have HF := Lib.hid hh
        rw [hh] at HA
        clear hh
        have AT := Lib.hid (MA.out.2.2 p)
        obtain ⟨ct, hct⟩ : ∃ ct, ct = cntL p (M.take k) := ⟨_, rfl⟩
        rw [← hct] at AT
        have HC := Lib.hid hct
        have hck : ct ≤ 1000000 := by rw [hct]; have := cntL_le p (M.take k); rw [List.length_take] at this; omega
        have KY := Lib.hid (WideMaps.keyOf_string_mk (P := Tryd.prog) Tryd.underlying9 KM.out.1)
        clear hct
        by_cases hc16 : ct < 16
        case neg => as_aux_lemma =>
          have OE : Hid (OfR M k 194) := Lib.hid ⟨R.out.o, Or.inr ⟨hkl, Or.inr (Or.inr (Or.inl ⟨by rw [← HY.out]; exact SS.out, by rw [← HY.out]; exact HN2.out, by rw [← HY.out]; show 16 ≤ cntL p (M.take k); rw [← HC.out]; omega, rfl⟩)), by decide⟩⟩
          have hge : (16 : Int) ≤ (ct : Int) := by omega
          have hge2 : decide ((ct : Int) ≥ 16) = true := decide_eq_true hge
          go_wp2_with fail
          refine HA.out.mono ?_
          rintro e w3 ⟨rfl, hb3⟩
          have B3 := Lib.hid (B2.out.trans (hb3.mono B2.out.size))
          obtain ⟨z0, z1, z2, z3, -, -, -⟩ := CX.out w3 B3.out
          have O3 := Lib.hid (CX.out w3 B3.out).2.2.2.2.2.1
          have F3 := Lib.hid (CX.out w3 B3.out).2.2.2.2.2.2
          clear hb3 HA HI y0 y1
          go_wp2_with (at_lookup; refine wpList_lookup_own_int _ rfl _ _ 34 rfl 9 3 .i64 L.law Tryd.underlying34 Tryd.underlying3 (L.zeroE _) h k Dh rfl O3.out _ _ rfl KY.out ?_; intro cc hat hwc; obtain rfl : cc = (ct : Int) := (by rw [AT.out] at hat; simpa using hat.symm); clear hat hwc)
          go_ret2
          exact ⟨F3.out, k, 194, OE.out, Or.inl ⟨by decide, rfl⟩⟩
        go_wp2_with fail
        refine HA.out.mono ?_
        rintro e w3 ⟨rfl, hb3⟩
        have B3 := Lib.hid (B2.out.trans (hb3.mono B2.out.size))
        obtain ⟨z0, z1, z2, z3, -, -, -⟩ := CX.out w3 B3.out
        have O3 := Lib.hid (CX.out w3 B3.out).2.2.2.2.2.1
        clear hb3 HA HI y0 y1
        have LY := Lib.hid (lay_any ⟨p, q, s, m⟩ w3 t b k Dt (CX.out w3 B3.out).2.2.2.2.1.tb (by omega) FI.out.1)
        unfold Bd.val at LY
        simp only at LY
        go_wp2_with (at_lookup; refine wpList_lookup_own_int _ rfl _ _ 34 rfl 9 3 .i64 L.law Tryd.underlying34 Tryd.underlying3 (L.zeroE _) h k Dh rfl O3.out _ _ rfl KY.out ?_; intro cc hat hwc; obtain rfl : cc = (ct : Int) := (by rw [AT.out] at hat; simpa using hat.symm); clear hat hwc)
        refine LY.out.mono ?_
        rintro e w4 ⟨rfl, hT4, hk4⟩
        have K4 : Hid (Ta w4 t b (k + 1) (Dt.put (kl p q) (eR s m)) ∧ Kept (fun y => y = b) w3 w4 ∧ w4.ownsMap Tryd.prog 9 (plainElem Tryd.prog 3) h k Dh ∧ w4.heap[g3]? = some (.cells #[.string p, .string q, .string s, .int .i64 m] 36 (0, 0))) := Lib.hid (by
          have hT3 := (CX.out w3 B3.out).2.2.2.2.1
          have hg3b : X.heap[g3]? = _ := AX.out.2
          have hgb : g3 ≠ b := fun e => by
            obtain ⟨es, c, q'⟩ := TA.out.1.tb.map
            have := (AX.out.1.block b (lt_of_some q')).trans q'
            rw [← e, AX.out.2] at this
            simp at this
          refine ⟨⟨hT4, hm_kept hT3.hm hk4 hT3.tb.map⟩, hk4, ?_, ?_⟩
          · have := LB.out
            obtain ⟨es, c, q'⟩ := (show ∃ es c, w3.heap[h]? = some (.map es c) from by obtain ⟨es, c, h1, _⟩ := O3.out; exact ⟨es, c, h1⟩)
            exact O3.out.kept (row := some b) ⟨hk4.os, hk4.tape, hk4.output, hk4.size, fun j hj hn => hk4.block j hj (fun e => hn (by rw [e]))⟩ (by simp; omega)
          · exact (hk4.block g3 (lt_of_some ((B3.out.block g3 (lt_of_some hg3b)).trans hg3b)) hgb).trans ((B3.out.block g3 (lt_of_some hg3b)).trans hg3b))
        have u0 : w4.cell? ⟨g3, 0, none⟩ = some (.string p) := cell_of_row _ _ 0 _ _ _ K4.out.2.2.2
        clear hT4 hk4 LY z0 z1 z2 z3
        have hw1 : IntKind.i64.wrap ((ct : Int) + 1) = (ct : Int) + 1 := by rw [IntKind.wrap_i64]; omega
        have PI : Hid (plainElem (H := Unit) Tryd.prog 3 (.int .i64 ((ct : Int) + 1)) = some (.lit (.int .i64 ((ct : Int) + 1)), [])) := Lib.hid (plainElem_int Tryd.underlying3 (wf_i64 (by omega) (by omega)))
        have KN : Hid (k < maxLen) := Lib.hid (by unfold maxLen; omega)
        go_wp2_with (first
          | (at_lookup; refine wpList_lookup_own_int _ rfl _ _ 34 rfl 9 3 .i64 L.law Tryd.underlying34 Tryd.underlying3 (L.zeroE _) h k Dh rfl K4.out.2.2.1 _ _ rfl KY.out ?_; intro cc hat hwc; obtain rfl : cc = (ct : Int) := (by rw [AT.out] at hat; simpa using hat.symm); clear hat hwc)
          | (at_mapUpdate; refine wpList_mapUpdate_own _ rfl _ _ _ 34 rfl 9 3 L.law Tryd.underlying34 (plainElem Tryd.prog 3) h k Dh rfl K4.out.2.2.1 KN.out _ _ _ rfl rfl KY.out _ _ PI.out ?_; intro w5 hown5 hgr5))
        have FN : Hid (Oq w w5 t b h (k + 1) M) := Lib.hid (by
          have hB4 := K4.out
          have hbh : b ≠ h := by have := LB.out; omega
          have hth : t ≠ h := by have := LB.out; omega
          have k5 : Kept (fun y => y = h) w4 w5 := (grown_kept hgr5).mono (fun y _ e => Option.some.inj e)
          refine ⟨⟨_, ⟨hB4.1.tb.kept k5 hth hbh, hm_kept hB4.1.hm k5 (by obtain ⟨es, c, h1, _⟩ := hB4.2.2.1; exact ⟨es, c, h1⟩)⟩, fun x => ?_⟩, ⟨_, hown5, MA.out.2.1.put _ _, fun p' => ?_⟩, ?_, fun j hj => ?_⟩
          · rw [InD.put (y := ⟨p, q, s, m⟩) TA.out.1.tb.m.isMap KM.out.1 KM.out.2, TA.out.2, TK.out, List.mem_append, List.mem_singleton]
            constructor
            · rintro (q1 | ⟨q1, -⟩)
              · exact Or.inr q1
              · exact Or.inl q1
            · rintro (q1 | q1)
              · exact Or.inr ⟨q1, fun e => HN2.out ⟨x, q1, e.1, e.2⟩⟩
              · exact Or.inl q1
          · rw [TK.out, cntL_snoc]
            by_cases e : p = p'
            · subst e
              rw [Maps.atKey_put_same MA.out.2.1 (isKeyB _), if_pos rfl, ← HC.out]
              simp
            · have hne := lit_ne e
              rw [Maps.atKey_put_other hne, MA.out.2.2 p', if_neg e, Nat.add_zero]
          · have h3 := (CX.out w3 B3.out).2.2.2.2.2.2
            have := LB.out
            exact (h3.trans (hB4.2.1.below h3.size (fun x e => by rw [e]; omega))).trans (k5.below (Nat.le_trans h3.size hB4.2.1.size) (fun x e => by rw [e]; omega))
          · rcases Nat.lt_or_ge j k with q1 | q1
            · exact R.out.o j q1
            · rw [show j = k by omega, ← HY.out]
              exact Or.inr (Or.inr (Or.inr ⟨SS.out, HN2.out, by show cntL p (M.take k) < 16; rw [← HC.out]; exact hc16, rfl⟩)))
        clear hown5 hgr5
        go_wp2_with fail
        go_roundg (n - (k + 1))
        case measure => have := G.out; omega
        case rel => exact ⟨k + 1, by omega, rfl, by go_num, FN⟩
    · have E : Hid (k = n) := Lib.hid (by omega)
      go_wp2_with fail
      go_ret2
      obtain ⟨D, hT, hI⟩ := R.out.t
      have ke : k = M.length := by have := HN.out; have := E.out; omega
      refine ⟨R.out.be, k, 0, ⟨R.out.o, Or.inl ⟨ke, rfl⟩⟩, Or.inr ⟨rfl, t, b, k, D, rfl, hT, by omega, LB.out.1, fun x => ?_⟩⟩
      rw [hI, List.take_of_length_le (by omega)]
end Ac
end Go.Proofs.YtlbnmafopfljcaaDoor
