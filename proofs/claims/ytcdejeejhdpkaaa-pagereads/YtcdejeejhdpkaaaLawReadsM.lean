/-
  PtA, PtD, PtB, PtC, PtO, PtH, PtL, PtI, PtJ, LawReads, joined.
-/
import Derived.Test.YtcdejeejhdpkaaaPgDn
import Derived.Test.YtcdejeejhdpkaaaPgRg
import Derived.Test.YtcdejeejhdpkaaaPgRn
import Derived.Test.YtcdejeejhdpkaaaPgZ
import Derived.Test.YtcdejeejhdpkaaaPuB
section S0
namespace Go.Proofs.Ytcdejeejhdpkaaa
open Go.RowKit Go.Maps
namespace Pt
/-- A text that is taken; none: the taker has failed. -/
def tkT : Option (List UInt8) → Nat → ByteArray
  | some l, n => if n ≤ l.length then txt (l.take n) else ⟨#[]⟩
  | none, _ => ⟨#[]⟩
def tkS : Option (List UInt8) → Nat → Option (List UInt8)
  | some l, n => if n ≤ l.length then some (l.drop n) else none
  | none, _ => none
def tkN : Option (List UInt8) → Nat → Nat
  | some l, n => if n ≤ l.length then leN (l.take n) else 0
  | none, _ => 0
theorem tkS_some {st : Option (List UInt8)} {n : Nat} {l' : List UInt8} (h : tkS st n = some l') : ∃ l, st = some l ∧ n ≤ l.length ∧ l' = l.drop n ∧ tkT st n = txt (l.take n) ∧ tkN st n = leN (l.take n) := by
  cases st with
  | none => cases h
  | some l =>
    by_cases c : n ≤ l.length
    · simp only [tkS, if_pos c, Option.some.injEq] at h
      exact ⟨l, rfl, c, h.symm, by simp only [tkT, if_pos c], by simp only [tkN, if_pos c]⟩
    · simp only [tkS, if_neg c] at h
      cases h
theorem tk_app (A Z : List UInt8) (n : Nat) (h : A.length = n) : tkS (some (A ++ Z)) n = some Z ∧ tkT (some (A ++ Z)) n = txt A ∧ tkN (some (A ++ Z)) n = leN A := by
  have c : n ≤ (A ++ Z).length := by rw [List.length_append]; omega
  refine ⟨?_, ?_, ?_⟩
  · simp only [tkS, if_pos c]; rw [List.drop_left' h]
  · simp only [tkT, if_pos c]; rw [List.take_left' h]
  · simp only [tkN, if_pos c]; rw [List.take_left' h]
theorem tkN_lt (st : Option (List UInt8)) : tkN st 1 < 256 := by
  cases st with
  | none => exact Nat.zero_lt_succ _
  | some l =>
    simp only [tkN]
    split
    · exact leN1_lt l
    · omega
theorem tkN4_lt (st : Option (List UInt8)) : tkN st 4 < 4294967296 := by
  cases st with
  | none => exact Nat.zero_lt_succ _
  | some l =>
    simp only [tkN]
    split
    · exact leN4_lt l
    · omega
/-- An entry that is taken. -/
def deE (st : Option (List UInt8)) : Ent × Nat × Option (List UInt8) :=
  if tkN (tkS st 1) 1 = 255 then ((tkT (tkS (tkS st 1) 1) (tkN st 1), ⟨#[]⟩), tkN (tkS (tkS (tkS st 1) 1) (tkN st 1)) 4, tkS (tkS (tkS (tkS st 1) 1) (tkN st 1)) 4)
  else ((tkT (tkS (tkS st 1) 1) (tkN st 1), tkT (tkS (tkS (tkS st 1) 1) (tkN st 1)) (tkN (tkS st 1) 1)), 0, tkS (tkS (tkS (tkS st 1) 1) (tkN st 1)) (tkN (tkS st 1) 1))
theorem deE_some {st : Option (List UInt8)} {l' : List UInt8} (h : (deE st).2.2 = some l') : ∃ l, st = some l ∧ 0 < l.length ∧ enR l = ((deE st).1, (deE st).2.1, l') := by
  unfold deE at h ⊢
  by_cases c : tkN (tkS st 1) 1 = 255
  · rw [if_pos c] at h ⊢
    obtain ⟨l3, h3, q3, rfl, _, n3⟩ := tkS_some h
    obtain ⟨l2, h2, q2, rfl, t2, _⟩ := tkS_some h3
    obtain ⟨l1, h1, q1, rfl, _, n1⟩ := tkS_some h2
    obtain ⟨l, rfl, q0, rfl, _, n0⟩ := tkS_some h1
    refine ⟨l, rfl, by omega, ?_⟩
    rw [n1] at c
    rw [enR_ch l c, t2, n3, n0]
  · rw [if_neg c] at h ⊢
    obtain ⟨l3, h3, q3, rfl, t3, _⟩ := tkS_some h
    obtain ⟨l2, h2, q2, rfl, t2, _⟩ := tkS_some h3
    obtain ⟨l1, h1, q1, rfl, _, n1⟩ := tkS_some h2
    obtain ⟨l, rfl, q0, rfl, _, n0⟩ := tkS_some h1
    refine ⟨l, rfl, by omega, ?_⟩
    rw [n1] at c
    simp only
    rw [enR_in l c, t2, t3, n0, n1]
theorem deE_enE (x : Ent) (c : Nat) (Z : List UInt8) (hk : x.1.size ≤ 120) (hv : x.2.size ≤ 64) (hc : c < 4096) (h0 : c ≠ 0 → x.2.size = 0) : deE (some (enE x c ++ Z)) = (x, c, some Z) := by
  rw [enE_cons]
  obtain ⟨xk, xv⟩ := x
  simp only at hk hv h0 ⊢
  have hkl : xk.data.toList.length = xk.size := str_size xk
  have a1 : leN ([UInt8.ofNat xk.size]) = xk.size := by rw [leN_one, u8_nat _ (by omega)]
  have e1 : ∀ (a : UInt8) (l : List UInt8), tkS (some (a :: l)) 1 = some l ∧ tkN (some (a :: l)) 1 = leN [a] := fun a l => ⟨(tk_app [a] l 1 rfl).1, (tk_app [a] l 1 rfl).2.2⟩
  unfold deE
  by_cases h : c = 0
  · subst h
    simp only [if_true]
    have b1 : leN ([UInt8.ofNat xv.size]) = xv.size := by rw [leN_one, u8_nat _ (by omega)]
    have hvl : xv.data.toList.length = xv.size := str_size xv
    rw [(e1 _ _).1, (e1 _ _).2, (e1 _ _).2, (e1 _ _).1, a1, b1, if_neg (by omega), (tk_app _ _ _ hkl).1, (tk_app _ _ _ hkl).2.1, (tk_app _ _ _ hvl).1, (tk_app _ _ _ hvl).2.1, list_txt, list_txt]
  · simp only [if_neg h]
    have b1 : leN ([UInt8.ofNat 255]) = 255 := by rw [leN_one, u8_nat _ (by omega)]
    rw [(e1 _ _).1, (e1 _ _).2, (e1 _ _).2, (e1 _ _).1, a1, b1, if_pos rfl, (tk_app _ _ _ hkl).1, (tk_app _ _ _ hkl).2.1, (tk_app _ _ _ (leB_length 4 c)).1, (tk_app _ _ _ (leB_length 4 c)).2.2, list_txt, leN_leB 4 c (by omega), ba_nil (h0 h)]
/-- The leaf's loop. -/
def dL : Nat → List Ent → List Int → Option (List UInt8) → List Ent × List Int × Option (List UInt8)
  | 0, es, cs, st => (es, cs, st)
  | _ + 1, es, cs, none => (es, cs, none)
  | j + 1, es, cs, some l => dL j (es ++ [(deE (some l)).1]) (cs ++ [((deE (some l)).2.1 : Int)]) (deE (some l)).2.2
theorem dL_none (j : Nat) (es : List Ent) (cs : List Int) : dL j es cs none = (es, cs, none) := by cases j <;> rfl
theorem dL_rd (cnt : Nat) : ∀ (j : Nat) (es : List Ent) (cs : List Int) (l l' : List UInt8) (E : List Ent) (C : List Int), es.length + j = cnt → dL j es cs (some l) = (E, C, some l') → rdL (j + 1) cnt es cs l = (E, C)
  | 0, es, cs, l, l', E, C, hj, h => by
    rw [rdL, if_neg (by omega)]
    simp only [dL, Prod.mk.injEq] at h
    rw [h.1, h.2.1]
  | j + 1, es, cs, l, l', E, C, hj, h => by
    rw [dL] at h
    cases e : (deE (some l)).2.2 with
    | none => rw [e, dL_none] at h; simp at h
    | some l2 =>
      obtain ⟨l0, h0, hp, hE⟩ := deE_some e
      cases h0
      rw [rdL, if_pos ⟨by omega, hp⟩, hE]
      rw [e] at h
      exact dL_rd cnt j _ _ l2 l' E C (by rw [List.length_append]; simp; omega) h
theorem dL_bs (n : Nd) (il : IsLeaf n) (Z : List UInt8) : ∀ j k, k + j = n.ents.length → dL j (n.ents.take k) (n.chs.take k) (some (((bsL n).drop k).flatten ++ Z)) = (n.ents, n.chs, some Z)
  | 0, k, h => by
    rw [dL, List.take_of_length_le (by omega), List.take_of_length_le (by have := il.c; omega), List.drop_eq_nil_of_le (by rw [bsL_length n il.c]; omega)]
    rfl
  | j + 1, k, h => by
    have hk : k < n.ents.length := by omega
    have hb : k < (bsL n).length := by rw [bsL_length n il.c]; exact hk
    obtain ⟨r1, r2⟩ := leafG_rel _ _ _ il.g k hk
    obtain ⟨s1, s2, s3⟩ := staB_ch r2
    rw [drop_one (bsL n) k [] hb, bsL_at n il.c k hk, List.flatten_cons, List.append_assoc, dL]
    rw [deE_enE _ _ _ r1 (staB_size r2) (by omega) (fun h => s3 (by omega))]
    simp only
    rw [show ((n.chs.getD k 0).toNat : Int) = n.chs.getD k 0 by omega, ← take_oneI n.ents k _ hk, ← take_oneI n.chs k 0 (by have := il.c; omega)]
    exact dL_bs n il Z j (k + 1) (by omega)
/-- The inner page's loop. -/
def deK (st : Option (List UInt8)) : ByteArray × Nat × Option (List UInt8) := (tkT (tkS st 1) (tkN st 1), tkN (tkS (tkS st 1) (tkN st 1)) 4, tkS (tkS (tkS st 1) (tkN st 1)) 4)
def dI : Nat → List ByteArray → List Int → Option (List UInt8) → List ByteArray × List Int × Option (List UInt8)
  | 0, ks, hs, st => (ks, hs, st)
  | _ + 1, ks, hs, none => (ks, hs, none)
  | j + 1, ks, hs, some l => dI j (ks ++ [(deK (some l)).1]) (hs ++ [((deK (some l)).2.1 : Int)]) (deK (some l)).2.2
theorem dI_none (j : Nat) (ks : List ByteArray) (hs : List Int) : dI j ks hs none = (ks, hs, none) := by cases j <;> rfl
theorem dI_rd (cnt : Nat) : ∀ (j : Nat) (ks : List ByteArray) (hs : List Int) (l l' : List UInt8) (K : List ByteArray) (H : List Int), ks.length + j = cnt → dI j ks hs (some l) = (K, H, some l') → rdI (j + 1) cnt ks hs l = (K, H)
  | 0, ks, hs, l, l', K, H, hj, h => by
    rw [rdI, if_neg (by omega)]
    simp only [dI, Prod.mk.injEq] at h
    rw [h.1, h.2.1]
  | j + 1, ks, hs, l, l', K, H, hj, h => by
    rw [dI] at h
    cases e : (deK (some l)).2.2 with
    | none => rw [e, dI_none] at h; simp at h
    | some l2 =>
      have e2 := e
      unfold deK at e2
      obtain ⟨l3, h3, q3, rfl, _, n3⟩ := tkS_some e2
      obtain ⟨l1, h1, q1, rfl, t1, _⟩ := tkS_some h3
      obtain ⟨l0, h0, q0, rfl, _, n0⟩ := tkS_some h1
      cases h0
      rw [rdI, if_pos ⟨by omega, by omega⟩]
      rw [e] at h
      have d1 : (deK (some l)).1 = txt ((l.drop 1).take (leN (l.take 1))) := by unfold deK; simp only; rw [t1, n0]
      have d2 : (deK (some l)).2.1 = leN (((l.drop 1).drop (leN (l.take 1))).take 4) := by unfold deK; simp only; rw [n3, n0]
      rw [d1, d2, n0] at h
      exact dI_rd cnt j _ _ _ l' K H (by rw [List.length_append]; simp; omega) h
theorem dI_bs (n : Nd) (il : IsInn n) (Z : List UInt8) : ∀ j k, k + j = n.keys.length → dI j (n.keys.take k) (n.kids.take (k + 1)) (some (((bsI n).drop k).flatten ++ Z)) = (n.keys, n.kids, some Z)
  | 0, k, h => by
    rw [dI, List.take_of_length_le (by omega), List.take_of_length_le (by have := il.h; omega), List.drop_eq_nil_of_le (by rw [bsI_length]; omega)]
    rfl
  | j + 1, k, h => by
    have hk : k < n.keys.length := by omega
    have hb : k < (bsI n).length := by rw [bsI_length]; exact hk
    have r1 := innG_at' _ _ il.g k hk
    obtain ⟨s1, s2⟩ := unl_at il.u (k + 1) (by have := il.h; omega)
    have hkl : (n.keys.getD k ⟨#[]⟩).data.toList.length = (n.keys.getD k ⟨#[]⟩).size := str_size _
    have a1 : leN ([UInt8.ofNat (n.keys.getD k ⟨#[]⟩).size]) = (n.keys.getD k ⟨#[]⟩).size := by rw [leN_one, u8_nat _ (by omega)]
    have e1 : ∀ (a : UInt8) (l : List UInt8), tkS (some (a :: l)) 1 = some l ∧ tkN (some (a :: l)) 1 = leN [a] := fun a l => ⟨(tk_app [a] l 1 rfl).1, (tk_app [a] l 1 rfl).2.2⟩
    rw [drop_one (bsI n) k [] hb, bsI_at n k hk, List.flatten_cons, List.append_assoc, dI]
    rw [enK_cons]
    unfold deK
    simp only
    rw [(e1 _ _).1, (e1 _ _).2, a1, (tk_app _ _ _ hkl).1, (tk_app _ _ _ hkl).2.1, (tk_app _ _ _ (leB_length 4 _)).1, (tk_app _ _ _ (leB_length 4 _)).2.2, list_txt, leN_leB 4 _ (by omega)]
    rw [show (((n.kids.getD (k + 1) 0).toNat : Nat) : Int) = n.kids.getD (k + 1) 0 by omega, ← take_oneI n.keys k _ hk, ← take_oneI n.kids (k + 1) 0 (by have := il.h; omega)]
    exact dI_bs n il Z j (k + 1) (by omega)
end Pt
end Go.Proofs.Ytcdejeejhdpkaaa
end S0

section S1
namespace Go.Proofs.Ytcdejeejhdpkaaa
open Go.RowKit Go.Maps
namespace Pt
theorem fit_leaf {n : Nd} (h : fitB n = true) (hk : n.kind = 1) : IsLeaf n ∧ 8 + (bsL n).flatten.length ≤ 512 ∧ n.ents.length < 65536 := by
  rcases fit_cases h with q | q | q
  · exact q
  · have := q.1.k; omega
  · have := q.k; omega
theorem fit_inn {n : Nd} (h : fitB n = true) (hk : n.kind = 2) : IsInn n ∧ 8 + (leB 4 (n.kids.getD 0 0).toNat ++ (bsI n).flatten).length ≤ 512 ∧ n.keys.length < 65536 := by
  rcases fit_cases h with q | q | q
  · have := q.1.k; omega
  · exact q
  · have := q.k; omega
theorem fit_ch {n : Nd} (h : fitB n = true) (hk : n.kind = 3) : IsCh n := by
  rcases fit_cases h with q | q | q
  · have := q.1.k; omega
  · have := q.1.k; omega
  · exact q
theorem leaf_pg {b : List UInt8} (hp : Pg b) (h1 : b.getD 1 0 = 1) : ∃ Z, dL (leN (sub b 2 2)) [] [] (some (b.drop 8)) = ((seN b).ents, (seN b).chs, some Z) := by
  have e : seN b = seL b := by unfold seN; rw [if_pos h1]
  have hk : (seN b).kind = 1 := by rw [e]; rfl
  obtain ⟨il, hl, hc⟩ := fit_leaf hp.1 hk
  obtain ⟨he, _⟩ := encN_leaf _ il
  have hb := hp.2
  rw [he] at hb
  have h2 : leN (sub b 2 2) = (seN b).ents.length := by rw [← hb, enc_cnt 1 _ _ hl hc, hb]
  have h8 : b.drop 8 = (bsL (seN b)).flatten ++ List.replicate (504 - (bsL (seN b)).flatten.length) 0 := by rw [← hb, enc_drop8 1 _ _ hl, hb]
  refine ⟨List.replicate (504 - (bsL (seN b)).flatten.length) 0, ?_⟩
  rw [h2, h8]
  have q := dL_bs (seN b) il (List.replicate (504 - (bsL (seN b)).flatten.length) 0) (seN b).ents.length 0 (by omega)
  rw [List.drop_zero, List.take_zero, List.take_zero] at q
  exact q
theorem leaf_rd {b l' : List UInt8} {E : List Ent} {C : List Int} (h : dL (leN (sub b 2 2)) [] [] (some (b.drop 8)) = (E, C, some l')) : seL b = ⟨1, E, C, [], [], 0, ⟨#[]⟩⟩ := by
  have q := dL_rd (leN (sub b 2 2)) _ [] [] _ _ E C (by simp) h
  unfold seL
  rw [q]
theorem inn_pg {b : List UInt8} (hp : Pg b) (h1 : b.getD 1 0 = 2) : ∃ Z, dI (leN (sub b 2 2)) [] [(leN ((b.drop 8).take 4) : Int)] (some ((b.drop 8).drop 4)) = ((seN b).keys, (seN b).kids, some Z) := by
  have e : seN b = seI b := by unfold seN; rw [if_neg (by rw [h1]; decide), if_pos h1]
  have hk : (seN b).kind = 2 := by rw [e]; rfl
  obtain ⟨il, hl, hc⟩ := fit_inn hp.1 hk
  obtain ⟨he, _⟩ := encN_inn _ il
  have hb := hp.2
  rw [he] at hb
  have h2 : leN (sub b 2 2) = (seN b).keys.length := by rw [← hb, enc_cnt 2 _ _ hl hc, hb]
  have h8 : b.drop 8 = (leB 4 ((seN b).kids.getD 0 0).toNat ++ (bsI (seN b)).flatten) ++ List.replicate (504 - (leB 4 ((seN b).kids.getD 0 0).toNat ++ (bsI (seN b)).flatten).length) 0 := by rw [← hb, enc_drop8 2 _ _ hl, hb]
  obtain ⟨s1, s2⟩ := unl_at il.u 0 (by have := il.h; omega)
  refine ⟨List.replicate (504 - (leB 4 ((seN b).kids.getD 0 0).toNat ++ (bsI (seN b)).flatten).length) 0, ?_⟩
  rw [h2, h8, List.append_assoc, List.take_left' (leB_length 4 _), List.drop_left' (leB_length 4 _), leN_leB 4 _ (by omega)]
  have q := dI_bs (seN b) il (List.replicate (504 - (leB 4 ((seN b).kids.getD 0 0).toNat ++ (bsI (seN b)).flatten).length) 0) (seN b).keys.length 0 (by omega)
  rw [List.drop_zero, List.take_zero, take_oneI (seN b).kids 0 0 (by have := il.h; omega), List.take_zero, List.nil_append] at q
  rw [show ((((seN b).kids.getD 0 0).toNat : Nat) : Int) = (seN b).kids.getD 0 0 by omega]
  exact q
theorem inn_rd {b l' : List UInt8} {K : List ByteArray} {H : List Int} (h : dI (leN (sub b 2 2)) [] [(leN ((b.drop 8).take 4) : Int)] (some ((b.drop 8).drop 4)) = (K, H, some l')) : seI b = ⟨2, [], [], K, H, 0, ⟨#[]⟩⟩ := by
  have q := dI_rd (leN (sub b 2 2)) _ [] _ _ _ K H (by simp) h
  unfold seI
  rw [q]
theorem ch_pg {b : List UInt8} (hp : Pg b) (h1 : b.getD 1 0 = 3) : leN (sub b 2 2) ≤ 500 := by
  have e : seN b = seC b := by unfold seN; rw [if_neg (by rw [h1]; decide), if_neg (by rw [h1]; decide), if_pos h1]
  have hk : (seN b).kind = 3 := by rw [e]; rfl
  have il := fit_ch hp.1 hk
  obtain ⟨he, _⟩ := encN_ch _ il
  have hb := hp.2
  rw [he] at hb
  have hs : (seN b).data.size ≤ 500 := il.d
  have hl : 8 + (leB 4 (seN b).next.toNat ++ (seN b).data.data.toList).length ≤ 512 := by
    rw [List.length_append, leB_length, str_size]; omega
  have h2 : leN (sub b 2 2) = (seN b).data.size := by rw [← hb, enc_cnt 3 _ _ hl (by omega), hb]
  omega
end Pt
end Go.Proofs.Ytcdejeejhdpkaaa
end S1

section S2
namespace Go.Proofs.Ytcdejeejhdpkaaa
open Go.RowKit Go.Maps
namespace Pt
/-- The taker at gr, over the bytes b. -/
structure Tk (w : World) (gr : Nat) (b : List UInt8) (bb ob cb : Nat) (st : Option (List UInt8)) (pos : Nat) : Prop where
  h : w.heap[gr]? = some (.cells #[.slice (some ⟨bb, ob, none⟩) 512 cb, .int .i64 (pos : Int), .bool st.isNone] 54 (0, 0))
  y : Bytes w (.slice (some ⟨bb, ob, none⟩) 512 cb) b
  p : pos ≤ 512
  l : ∀ x, st = some x → x = b.drop pos
  ne : bb ≠ gr
  lt : bb < w.heap.size
  len : b.length = 512
theorem Tk.kept {F : Nat → Prop} {w w' : World} {gr : Nat} {b : List UInt8} {bb ob cb : Nat} {st : Option (List UInt8)} {pos : Nat} (h : Tk w gr b bb ob cb st pos) (hk : Kept F w w') (h1 : ¬ F gr) (h2 : ¬ F bb) : Tk w' gr b bb ob cb st pos :=
  ⟨by rw [hk.block gr (lt_of_heap h.h) h1]; exact h.h, bytes_kept h.y hk h2, h.p, h.l, h.ne, Nat.lt_of_lt_of_le h.lt hk.size, h.len⟩
theorem Tk.set {w : World} {gr : Nat} {b : List UInt8} {bb ob cb : Nat} {st st' : Option (List UInt8)} {pos pos' : Nat} (h : Tk w gr b bb ob cb st pos) (W : World) (hk : Kept (fun y => y = gr) w W)
    (hh : W.heap[gr]? = some (.cells #[.slice (some ⟨bb, ob, none⟩) 512 cb, .int .i64 (pos' : Int), .bool st'.isNone] 54 (0, 0))) (hp : pos' ≤ 512) (hl : ∀ x, st' = some x → x = b.drop pos') : Tk W gr b bb ob cb st' pos' :=
  ⟨hh, bytes_kept h.y hk h.ne, hp, hl, h.ne, Nat.lt_of_lt_of_le h.lt hk.size, h.len⟩
theorem kept_drewN (F : Nat → Prop) (w : World) (n : Nat) : Kept F w (w.drewN n) := Below.kept (below_drawn w n) F
theorem size_u8 (w : World) : (Go.sizeOf 5).run Try.prog w = .ok 1 w := by go_simp
set_option maxHeartbeats 2000000 in
set_option maxRecDepth 100000 in
theorem text_any (gr bb ob cb N pos : Nat) (b : List UInt8) (st : Option (List UInt8)) (w : World) (h : Tk w gr b bb ob cb st pos) (hN : N < 65536) :
    Calls Try.prog 31 #[.pointer (some ⟨gr, 0, none⟩), .int .i64 (N : Int)] w fun e w' => ∃ pos', e = .returned (.string (tkT st N)) ∧ Tk w' gr b bb ob cb (tkS st N) pos' ∧ Kept (fun y => y = gr) w w' := by
  have H := Lib.hid h
  have hp := h.p
  have hcb : 512 ≤ cb ∧ cb ≤ 9223372036854775807 := by
    obtain ⟨a2, c2, e, q1, q2, _⟩ := h.y
    simp only [Value.slice.injEq] at e
    unfold maxLen at q2
    rw [e.2.2, ← h.len]
    exact ⟨q1, q2⟩
  obtain ⟨hcb1, hcb2⟩ := hcb
  have c0 : ∀ M, (w.drewN M).cell? ⟨gr, 0, none⟩ = some (.slice (some ⟨bb, ob, none⟩) 512 cb) := fun M => by show w.cell? _ = _; rw [cell_of_row w gr 0 _ _ _ h.h]; rfl
  have c1 : ∀ M, (w.drewN M).cell? ⟨gr, 1, none⟩ = some (.int .i64 (pos : Int)) := fun M => by show w.cell? _ = _; rw [cell_of_row w gr 1 _ _ _ h.h]; rfl
  have c2 : ∀ M, (w.drewN M).cell? ⟨gr, 2, none⟩ = some (.bool st.isNone) := fun M => by show w.cell? _ = _; rw [cell_of_row w gr 2 _ _ _ h.h]; rfl
  have f1 : ∀ M, (w.drewN M).frozen? ⟨gr, 1, none⟩ = false := fun M => frozen_of_row w _ _ _ _ h.h
  have f2 : ∀ M, (w.drewN M).frozen? ⟨gr, 2, none⟩ = false := fun M => frozen_of_row w _ _ _ _ h.h
  have lt0 : decide ((N : Int) < 0) = false := decide_eq_false (by omega)
  have FIN : Hid (∀ M, ∃ pos', Tk ((w.drewN M).setCell ⟨gr, 2, none⟩ (.bool true)) gr b bb ob cb none pos' ∧ Kept (fun y => y = gr) w ((w.drewN M).setCell ⟨gr, 2, none⟩ (.bool true))) := Lib.hid (fun M => by
    have hk := (kept_drewN (fun y => y = gr) w M).trans (kept_set (F := fun y => y = gr) (w.drewN M) ⟨gr, 2, none⟩ (.bool true) rfl) (fun _ _ e => e)
    exact ⟨pos, H.out.set _ hk (by rw [heap_setCell_same _ _ _ _ _ _ (show (w.drewN M).heap[gr]? = _ from H.out.h)]; rfl) H.out.p (fun x e => by cases e), hk⟩)
  by_cases hs : st = none
  · subst hs
    simp only [Option.isNone_none] at c2
    clear h
    go_enter Try.func31, Try.ntmps31
    go_wp2_with fail
    go_quiet (fail)
    have k2 := c2 nq
    have g2 := f2 nq
    clear c0 c1 c2 f1 f2
    go_wp2_with fail
    go_ret
    obtain ⟨p', q1, q2⟩ := FIN.out nq
    exact ⟨p', rfl, q1, q2⟩
  · obtain ⟨l, rfl⟩ : ∃ l, st = some l := by cases st with | none => exact absurd rfl hs | some l => exact ⟨l, rfl⟩
    simp only [Option.isNone_some] at c2
    have hl := h.l l rfl
    have hll : l.length = 512 - pos := by rw [hl, List.length_drop, h.len]
    have hpz : (pos : Int) ≤ 512 := by omega
    by_cases hn : N ≤ l.length
    · have gt : decide ((N : Int) > 512 - (pos : Int)) = false := decide_eq_false (by omega)
      have ES : Hid (tkS (some l) N = some (l.drop N) ∧ tkT (some l) N = txt (l.take N)) := Lib.hid (by simp only [tkS, tkT, if_pos hn]; exact ⟨trivial, trivial⟩)
      obtain ⟨q, hq⟩ : ∃ q, q = pos + N := ⟨_, rfl⟩
      have EQ : (pos : Int) + (N : Int) = (q : Int) := by omega
      have E2 : (q : Int) - (N : Int) = (pos : Int) := by omega
      have hpq : (pos : Int) ≤ (q : Int) := by omega
      have hqc : (q : Int) ≤ (cb : Int) := by omega
      have HQ := Lib.hid (And.intro hq hll)
      have HL := Lib.hid hl
      have HN := Lib.hid hn
      clear h hl hll hn hq
      go_enter Try.func31, Try.ntmps31
      go_wp2_with fail
      go_quiet (fail)
      obtain ⟨wd, hwd⟩ : ∃ W, W = w.drewN nq := ⟨_, rfl⟩
      have k1 : wd.cell? ⟨gr, 1, none⟩ = some (.int .i64 (pos : Int)) := by rw [hwd]; exact c1 nq
      have g1 : wd.frozen? ⟨gr, 1, none⟩ = false := by rw [hwd]; exact f1 nq
      have HD : Hid (Tk wd gr b bb ob cb (some l) pos ∧ Kept (fun y => y = gr) w wd) := Lib.hid (by rw [hwd]; exact ⟨H.out.kept (kept_drewN (fun _ => False) w nq) (fun h => h) (fun h => h), kept_drewN _ w nq⟩)
      rw [← hwd]
      clear hwd c0 c1 c2 f1 f2
      obtain ⟨X, hX⟩ : ∃ X, X = wd.setCell ⟨gr, 1, none⟩ (.int .i64 (q : Int)) := ⟨_, rfl⟩
      have TX : Hid (Tk X gr b bb ob cb (some (l.drop N)) q ∧ Kept (fun y => y = gr) w X) := Lib.hid (by
        have hk := kept_set (F := fun y => y = gr) wd ⟨gr, 1, none⟩ (.int .i64 (q : Int)) rfl
        rw [hX]
        refine ⟨HD.out.1.set _ hk (by rw [heap_setCell_same _ _ _ _ _ _ HD.out.1.h]; rfl) (by have := HQ.out; have := HN.out; omega) (fun x e => ?_), HD.out.2.trans hk (fun _ _ e => e)⟩
        cases e
        rw [HL.out, List.drop_drop, HQ.out.1])
      have x0 : ∀ M, (X.drewN M).cell? ⟨gr, 0, none⟩ = some (.slice (some ⟨bb, ob, none⟩) 512 cb) := fun M => by show X.cell? _ = _; rw [cell_of_row X gr 0 _ _ _ TX.out.1.h]; rfl
      have x1 : ∀ M, (X.drewN M).cell? ⟨gr, 1, none⟩ = some (.int .i64 (q : Int)) := fun M => by show X.cell? _ = _; rw [cell_of_row X gr 1 _ _ _ TX.out.1.h]; rfl
      have hX' := hX.symm
      clear hX
      have SB : Hid (∀ M, Bytes (X.drewN M) (.slice (some ⟨bb, ob, none⟩) b.length cb) b) := Lib.hid (fun M => by rw [TX.out.1.len]; exact bytes_kept TX.out.1.y (kept_drewN (fun _ => False) X M) (fun h => h))
      by_cases hpc : pos < cb
      · have hpc' : (pos : Int) < (cb : Int) := by omega
        have CV : ∀ M, (convert 33 9 (.slice (some ⟨bb, ob + pos, none⟩) N (cb - pos))).run Try.prog (X.drewN M) = .ok (.string (txt (l.take N))) (X.drewN M) := fun M => by
          have hd := (SB.out M).drop pos (by rw [H.out.len]; omega)
          rw [← List.length_drop] at hd
          have ht := hd.take N (by rw [← HL.out]; exact HN.out)
          simp only [Option.map_some, add_plain] at ht
          rw [← HL.out] at ht
          exact convT ht
        have SL : ∀ W, (Instr.slice 33 (.slice (some ⟨bb, ob, none⟩) 512 cb) (some (.int .i64 (pos : Int))) (some (.int .i64 (q : Int))) none).run Try.prog W = .ok (.slice (some ⟨bb, ob + pos, none⟩) N (cb - pos)) W := fun W => by
          have ht' : Try.prog.underlying 33 = some (.slice (Try.prog.elem 33)) := by simp [Program.elem, Try.underlying33]
          have he : Try.prog.elem 33 = 5 := by simp [Program.elem, Try.underlying33]
          rw [run_slice_lh W 33 _ _ _ ht' .i64 .i64 _ _ (by omega) (by omega) (by omega), he, size_u8 W]
          have hne : ¬ cb = pos := by omega
          have hNq : q - pos = N := by have := HQ.out; omega
          by_cases h0 : pos = 0
          · simp [Result.andThen, sliced, Addr.add, h0, ← hNq]
          · simp [Result.andThen, sliced, Addr.add, hne, h0, hNq]
        have WQ : IntKind.i64.wrap ((q : Int) - (N : Int)) = (pos : Int) := by rw [E2, IntKind.wrap_i64]; omega
        go_wp2_with fail
        go_quiet (fail)
        go_wp2_with fail
        go_ret
        rw [ES.out.1, ES.out.2]
        exact ⟨q, rfl, TX.out.1.kept (kept_drewN (fun _ => False) X nq) (fun h => h) (fun h => h), TX.out.2.trans (kept_drewN _ X nq) (fun _ _ e => e)⟩
      · have CV : ∀ M, (convert 33 9 (.slice (some ⟨bb, ob, none⟩) 0 0)).run Try.prog (X.drewN M) = .ok (.string (txt (l.take N))) (X.drewN M) := fun M => by
          have e1 : pos = 512 := by omega
          have e2 : cb = 512 := by omega
          have e3 : N = 0 := by have := HQ.out; have := HN.out; omega
          have q := SB.out M
          rw [e2] at q
          have hd := q.drop_all (by rw [H.out.len]; omega)
          rw [H.out.len] at hd
          rw [show l.take N = b.drop 512 by rw [e3, List.take_zero, List.drop_eq_nil_of_le (by rw [H.out.len]; omega)]]
          exact convT hd
        have SL : ∀ W, (Instr.slice 33 (.slice (some ⟨bb, ob, none⟩) 512 cb) (some (.int .i64 (pos : Int))) (some (.int .i64 (q : Int))) none).run Try.prog W = .ok (.slice (some ⟨bb, ob, none⟩) 0 0) W := fun W => by
          have e1 : pos = 512 := by omega
          have e2 : cb = 512 := by omega
          have e3 : q = 512 := by have := HQ.out; have := HN.out; omega
          have ht' : Try.prog.underlying 33 = some (.slice (Try.prog.elem 33)) := by simp [Program.elem, Try.underlying33]
          have he : Try.prog.elem 33 = 5 := by simp [Program.elem, Try.underlying33]
          rw [run_slice_lh W 33 _ _ _ ht' .i64 .i64 _ _ (by omega) (by omega) (by omega), he, size_u8 W, e1, e2, e3]
          simp [Result.andThen, sliced]
        have WQ : IntKind.i64.wrap ((q : Int) - (N : Int)) = (pos : Int) := by rw [E2, IntKind.wrap_i64]; omega
        go_wp2_with fail
        go_quiet (fail)
        go_wp2_with fail
        go_ret
        rw [ES.out.1, ES.out.2]
        exact ⟨q, rfl, TX.out.1.kept (kept_drewN (fun _ => False) X nq) (fun h => h) (fun h => h), TX.out.2.trans (kept_drewN _ X nq) (fun _ _ e => e)⟩
    · have gt : decide ((N : Int) > 512 - (pos : Int)) = true := decide_eq_true (by omega)
      have ES : Hid (tkS (some l) N = none ∧ tkT (some l) N = ⟨#[]⟩) := Lib.hid (by simp only [tkS, tkT, if_neg hn]; exact ⟨trivial, trivial⟩)
      clear h hl hll hn
      go_enter Try.func31, Try.ntmps31
      go_wp2_with fail
      go_quiet (fail)
      have k2 := c2 nq
      have g2 := f2 nq
      clear c0 c1 c2 f1 f2
      go_wp2_with fail
      go_ret
      obtain ⟨p', q1, q2⟩ := FIN.out nq
      rw [ES.out.1, ES.out.2]
      exact ⟨p', rfl, q1, q2⟩
theorem wl (x : Int) (h : 0 ≤ x ∧ x < 4294967296) : wrap64 x = x := by unfold wrap64; omega
theorem w4 (x y z u : Int) (hx : 0 ≤ x ∧ x < 256) (hy : 0 ≤ y ∧ y < 256) (hz : 0 ≤ z ∧ z < 256) (hu : 0 ≤ u ∧ u < 256) : wrap64 (wrap64 (wrap64 (wrap64 x + wrap64 (wrap64 y * 256)) + wrap64 (wrap64 z * 65536)) + wrap64 (wrap64 u * 16777216)) = x + y * 256 + z * 65536 + u * 16777216 := by
  rw [wl x (by omega), wl y (by omega), wl z (by omega), wl u (by omega), wl (y * 256) (by omega), wl (z * 65536) (by omega), wl (u * 16777216) (by omega), wl (x + y * 256) (by omega), wl (x + y * 256 + z * 65536) (by omega), wl _ (by omega)]
set_option maxHeartbeats 2000000 in
theorem byte_any (gr bb ob cb pos : Nat) (b : List UInt8) (st : Option (List UInt8)) (w : World) (h : Tk w gr b bb ob cb st pos) :
    Calls Try.prog 30 #[.pointer (some ⟨gr, 0, none⟩)] w fun e w' => ∃ pos', e = .returned (.int .i64 (tkN st 1 : Int)) ∧ Tk w' gr b bb ob cb (tkS st 1) pos' ∧ Kept (fun y => y = gr) w w' := by
  have TX := Lib.hid (text_any gr bb ob cb 1 pos b st w h (by decide))
  cases hs : tkS st 1 with
  | none =>
    have EN : Hid (tkN st 1 = 0) := Lib.hid (by
      cases st with
      | none => rfl
      | some l =>
        simp only [tkS] at hs
        simp only [tkN]
        split at hs
        · cases hs
        · rw [if_neg (by assumption)])
    rw [hs] at TX
    go_enter Try.func30, Try.ntmps30
    go_wp2_with (first | (go_at_call 31; refine TX.out.mono ?_; rintro e w1 ⟨p1, rfl, t1, k1⟩; have T1 := Lib.hid (And.intro t1 k1); have c2 : w1.cell? ⟨gr, 2, none⟩ = some (.bool true) := (by rw [cell_of_row w1 gr 2 _ _ _ t1.h]; rfl); clear t1 k1))
    go_ret
    rw [EN.out]
    exact ⟨p1, rfl, T1.out.1, T1.out.2⟩
  | some l' =>
    obtain ⟨l, rfl, hl, rfl, ht, hn⟩ := tkS_some hs
    obtain ⟨x, r, rfl⟩ : ∃ x r, l = x :: r := by cases l with | nil => simp at hl | cons x r => exact ⟨x, r, rfl⟩
    have EN : Hid (tkN (some (x :: r)) 1 = x.toNat) := Lib.hid (by rw [hn]; simp [leN])
    have ET : tkT (some (x :: r)) 1 = ⟨#[x]⟩ := by rw [ht]; rfl
    rw [hs, ET] at TX
    have NX := Lib.hid hs
    clear ht hn hs hl ET
    go_enter Try.func30, Try.ntmps30
    go_wp2_with (first | (go_at_call 31; refine TX.out.mono ?_; rintro e w1 ⟨p1, rfl, t1, k1⟩; have T1 := Lib.hid (And.intro t1 k1); have c2 : w1.cell? ⟨gr, 2, none⟩ = some (.bool false) := (by rw [cell_of_row w1 gr 2 _ _ _ t1.h]; rfl); clear t1 k1))
    go_ret
    rw [EN.out]
    refine ⟨p1, ?_, T1.out.1, T1.out.2⟩
    have hx := x.toNat_lt
    show Ending.returned (Value.int IntKind.i64 (wrap64 (x.toNat : Int))) = _
    rw [show wrap64 (x.toNat : Int) = (x.toNat : Int) by unfold wrap64; omega]
set_option maxHeartbeats 2000000 in
theorem number_any (gr bb ob cb pos : Nat) (b : List UInt8) (st : Option (List UInt8)) (w : World) (h : Tk w gr b bb ob cb st pos) :
    Calls Try.prog 32 #[.pointer (some ⟨gr, 0, none⟩)] w fun e w' => ∃ pos', e = .returned (.int .i64 (tkN st 4 : Int)) ∧ Tk w' gr b bb ob cb (tkS st 4) pos' ∧ Kept (fun y => y = gr) w w' := by
  have TX := Lib.hid (text_any gr bb ob cb 4 pos b st w h (by decide))
  cases hs : tkS st 4 with
  | none =>
    have EN : Hid (tkN st 4 = 0) := Lib.hid (by
      cases st with
      | none => rfl
      | some l =>
        simp only [tkS] at hs
        simp only [tkN]
        split at hs
        · cases hs
        · rw [if_neg (by assumption)])
    rw [hs] at TX
    go_enter Try.func32, Try.ntmps32
    go_wp2_with (first | (go_at_call 31; refine TX.out.mono ?_; rintro e w1 ⟨p1, rfl, t1, k1⟩; have T1 := Lib.hid (And.intro t1 k1); have c2 : w1.cell? ⟨gr, 2, none⟩ = some (.bool true) := (by rw [cell_of_row w1 gr 2 _ _ _ t1.h]; rfl); clear t1 k1))
    go_ret
    rw [EN.out]
    exact ⟨p1, rfl, T1.out.1, T1.out.2⟩
  | some l' =>
    obtain ⟨l, rfl, hl, rfl, ht, hn⟩ := tkS_some hs
    obtain ⟨x, y, z, u, r, rfl⟩ : ∃ x y z u r, l = x :: y :: z :: u :: r := by
      match l, hl with
      | x :: y :: z :: u :: r, _ => exact ⟨x, y, z, u, r, rfl⟩
      | [], h => simp at h
      | [_], h => simp at h
      | [_, _], h => simp at h
      | [_, _, _], h => simp at h
    have EN : Hid (tkN (some (x :: y :: z :: u :: r)) 4 = x.toNat + y.toNat * 256 + z.toNat * 65536 + u.toNat * 16777216) := Lib.hid (by rw [hn]; simp [leN]; omega)
    have ET : tkT (some (x :: y :: z :: u :: r)) 4 = ⟨#[x, y, z, u]⟩ := by rw [ht]; rfl
    rw [hs, ET] at TX
    have NX := Lib.hid hs
    clear ht hn hs hl ET
    go_enter Try.func32, Try.ntmps32
    go_wp2_with (first | (go_at_call 31; refine TX.out.mono ?_; rintro e w1 ⟨p1, rfl, t1, k1⟩; have T1 := Lib.hid (And.intro t1 k1); have c2 : w1.cell? ⟨gr, 2, none⟩ = some (.bool false) := (by rw [cell_of_row w1 gr 2 _ _ _ t1.h]; rfl); clear t1 k1))
    go_quiet (fail)
    go_wp2_with fail
    go_ret
    rw [EN.out]
    refine ⟨p1, ?_, T1.out.1.kept (kept_drewN (fun _ => False) w1 nq) (fun h => h) (fun h => h), T1.out.2.trans (kept_drewN _ w1 nq) (fun _ _ e => e)⟩
    have hx := x.toNat_lt
    have hy := y.toNat_lt
    have hz := z.toNat_lt
    have hu := u.toNat_lt
    show Ending.returned (Value.int IntKind.i64 (wrap64 (wrap64 (wrap64 (wrap64 (x.toNat : Int) + wrap64 (wrap64 (y.toNat : Int) * 256)) + wrap64 (wrap64 (z.toNat : Int) * 65536)) + wrap64 (wrap64 (u.toNat : Int) * 16777216)))) = _
    rw [w4 _ _ _ _ (by omega) (by omega) (by omega) (by omega)]
    congr 2
end Pt
end Go.Proofs.Ytcdejeejhdpkaaa
end S2

section S3
namespace Go.Proofs.Ytcdejeejhdpkaaa
open Go.RowKit Go.Maps
namespace Pt
structure De (w W : World) (gs gn gr : Nat) (ve vc : Value) (es : List Ent) (cs : List Int) (b : List UInt8) (bb ob cb : Nat) (st : Option (List UInt8)) (pos : Nat) : Prop where
  n : W.heap[gn]? = some (.cells #[.int .i64 1, ve, vc, .slice none 0 0, .slice none 0 0, .int .i64 0, .string ⟨#[]⟩] 27 (0, 0))
  s : W.heap[gs]? = some (.cells #[.int .i64 0, .slice none 0 0, .slice none 0 0, .slice none 0 0, .slice none 0 0, .int .i64 0, .string ⟨#[]⟩] 27 (0, 0))
  r : Tk W gr b bb ob cb st pos
  e : OwnE (gr + 1) W ve es
  i : OwnI (gr + 1) W vc cs
  o : w.heap.size ≤ gs ∧ gs < gn ∧ gn < gr ∧ bb < w.heap.size
  bl : Below w.heap.size w W
theorem De.lt {w W : World} {gs gn gr : Nat} {ve vc : Value} {es : List Ent} {cs : List Int} {b : List UInt8} {bb ob cb : Nat} {st : Option (List UInt8)} {pos : Nat} (h : De w W gs gn gr ve vc es cs b bb ob cb st pos) : gr < W.heap.size := lt_of_heap h.r.h
theorem De.alloc {w W : World} {gs gn gr : Nat} {ve vc : Value} {es : List Ent} {cs : List Int} {b : List UInt8} {bb ob cb : Nat} {st : Option (List UInt8)} {pos : Nat} (h : De w W gs gn gr ve vc es cs b bb ob cb st pos) (oj : Obj) : De w (W.alloc oj) gs gn gr ve vc es cs b bb ob cb st pos := by
  have hb : Below W.heap.size W (W.alloc oj) := (Below.refl _ _).alloc (Nat.le_refl _) _
  have hk : Kept (fun _ => False) W (W.alloc oj) := Below.kept hb _
  exact ⟨by rw [hk.block _ (lt_of_heap h.n) (fun h => h)]; exact h.n, by rw [hk.block _ (lt_of_heap h.s) (fun h => h)]; exact h.s, h.r.kept hk (fun h => h) (fun h => h), h.e.kept hk (fun _ _ h => h), h.i.kept hk (fun _ _ h => h), h.o, h.bl.alloc h.bl.size oj⟩
theorem De.read {w W W' : World} {gs gn gr : Nat} {ve vc : Value} {es : List Ent} {cs : List Int} {b : List UInt8} {bb ob cb : Nat} {st st' : Option (List UInt8)} {pos pos' : Nat} (h : De w W gs gn gr ve vc es cs b bb ob cb st pos) (hr : Tk W' gr b bb ob cb st' pos') (hk : Kept (fun y => y = gr) W W') : De w W' gs gn gr ve vc es cs b bb ob cb st' pos' :=
  ⟨by rw [hk.block _ (lt_of_heap h.n) (by have := h.o; omega)]; exact h.n, by rw [hk.block _ (lt_of_heap h.s) (by have := h.o; omega)]; exact h.s, hr, h.e.kept hk (fun g hg e => by have := (h.e.lt g hg).1; omega), h.i.kept hk (fun g hg e => by have := (h.i.lt g hg).1; omega), h.o, h.bl.trans (hk.below h.bl.size (fun x hx => by have := h.o; omega))⟩
theorem De.ent {w W W' : World} {gs gn gr : Nat} {ve vc ve' : Value} {es es' : List Ent} {cs : List Int} {b : List UInt8} {bb ob cb : Nat} {st : Option (List UInt8)} {pos : Nat} (h : De w W gs gn gr ve vc es cs b bb ob cb st pos) (he : OwnE (gr + 1) W' ve' es') (hg : W.grownBy W' ve.ownBlock) : De w (W'.setCell ⟨gn, 1, none⟩ ve') gs gn gr ve' vc es' cs b bb ob cb st pos := by
  have hk := grown_kept hg
  have n0 : ∀ k, k ≤ gr → ¬ some k = ve.ownBlock := fun k hk e => by have := (h.e.lt k e.symm).1; omega
  have hn : W'.heap[gn]? = _ := (hk.block gn (lt_of_heap h.n) (n0 gn (by have := h.o; omega))).trans h.n
  have hs := kept_set (F := fun y => y = gn) W' ⟨gn, 1, none⟩ ve' rfl
  refine ⟨by rw [heap_setCell_same _ _ _ _ _ _ hn]; rfl, ?_, ?_, ?_, ?_, h.o, ?_⟩
  · rw [hs.block gs (Nat.lt_of_lt_of_le (lt_of_heap h.s) hk.size) (by have := h.o; omega), hk.block gs (lt_of_heap h.s) (n0 gs (by have := h.o; omega))]; exact h.s
  · exact (h.r.kept hk (n0 gr (Nat.le_refl _)) (n0 bb (by have := h.o; omega))).kept hs (by have := h.o; omega) (by have := h.o; omega)
  · exact he.kept hs (fun g hg e => by have := (he.lt g hg).1; have := h.o; omega)
  · exact (h.i.kept hk (fun g hg e => own_ne h.e h.i g e.symm hg)).kept hs (fun g hg e => by have := (h.i.lt g hg).1; have := h.o; omega)
  · refine (h.bl.trans (hk.below h.bl.size (fun x hx => ?_))).trans (hs.below (Nat.le_trans h.bl.size hk.size) (fun x hx => by have := h.o; omega))
    have := (h.e.lt x hx.symm).1; have := h.o; omega
theorem De.int {w W W' : World} {gs gn gr : Nat} {ve vc vc' : Value} {es : List Ent} {cs cs' : List Int} {b : List UInt8} {bb ob cb : Nat} {st : Option (List UInt8)} {pos : Nat} (h : De w W gs gn gr ve vc es cs b bb ob cb st pos) (he : OwnI (gr + 1) W' vc' cs') (hg : W.grownBy W' vc.ownBlock) : De w (W'.setCell ⟨gn, 2, none⟩ vc') gs gn gr ve vc' es cs' b bb ob cb st pos := by
  have hk := grown_kept hg
  have n0 : ∀ k, k ≤ gr → ¬ some k = vc.ownBlock := fun k hk e => by have := (h.i.lt k e.symm).1; omega
  have hn : W'.heap[gn]? = _ := (hk.block gn (lt_of_heap h.n) (n0 gn (by have := h.o; omega))).trans h.n
  have hs := kept_set (F := fun y => y = gn) W' ⟨gn, 2, none⟩ vc' rfl
  refine ⟨by rw [heap_setCell_same _ _ _ _ _ _ hn]; rfl, ?_, ?_, ?_, ?_, h.o, ?_⟩
  · rw [hs.block gs (Nat.lt_of_lt_of_le (lt_of_heap h.s) hk.size) (by have := h.o; omega), hk.block gs (lt_of_heap h.s) (n0 gs (by have := h.o; omega))]; exact h.s
  · exact (h.r.kept hk (n0 gr (Nat.le_refl _)) (n0 bb (by have := h.o; omega))).kept hs (by have := h.o; omega) (by have := h.o; omega)
  · exact (h.e.kept hk (fun g hg e => own_ne h.e h.i g hg e.symm)).kept hs (fun g hg e => by have := (h.e.lt g hg).1; have := h.o; omega)
  · exact he.kept hs (fun g hg e => by have := (he.lt g hg).1; have := h.o; omega)
  · refine (h.bl.trans (hk.below h.bl.size (fun x hx => ?_))).trans (hs.below (Nat.le_trans h.bl.size hk.size) (fun x hx => by have := h.o; omega))
    have := (h.i.lt x hx.symm).1; have := h.o; omega
structure Di (w W : World) (gs gn gr : Nat) (vk vh : Value) (ks : List ByteArray) (hs : List Int) (b : List UInt8) (bb ob cb : Nat) (st : Option (List UInt8)) (pos : Nat) : Prop where
  n : W.heap[gn]? = some (.cells #[.int .i64 2, .slice none 0 0, .slice none 0 0, vk, vh, .int .i64 0, .string ⟨#[]⟩] 27 (0, 0))
  s : W.heap[gs]? = some (.cells #[.int .i64 0, .slice none 0 0, .slice none 0 0, .slice none 0 0, .slice none 0 0, .int .i64 0, .string ⟨#[]⟩] 27 (0, 0))
  r : Tk W gr b bb ob cb st pos
  k : OwnS (gr + 1) W vk ks
  h : OwnI (gr + 1) W vh hs
  o : w.heap.size ≤ gs ∧ gs < gn ∧ gn < gr ∧ bb < w.heap.size
  bl : Below w.heap.size w W
theorem Di.lt {w W : World} {gs gn gr : Nat} {vk vh : Value} {ks : List ByteArray} {hs : List Int} {b : List UInt8} {bb ob cb : Nat} {st : Option (List UInt8)} {pos : Nat} (h : Di w W gs gn gr vk vh ks hs b bb ob cb st pos) : gr < W.heap.size := lt_of_heap h.r.h
theorem Di.drew {w W : World} {gs gn gr : Nat} {vk vh : Value} {ks : List ByteArray} {hs : List Int} {b : List UInt8} {bb ob cb : Nat} {st : Option (List UInt8)} {pos : Nat} (h : Di w W gs gn gr vk vh ks hs b bb ob cb st pos) : Di w W.drew gs gn gr vk vh ks hs b bb ob cb st pos := by
  have hk : Kept (fun _ => False) W W.drew := ⟨rfl, rfl, rfl, Nat.le_refl _, fun _ _ _ => rfl⟩
  exact ⟨h.n, h.s, h.r.kept hk (fun h => h) (fun h => h), h.k.kept hk (fun _ _ h => h), h.h.kept hk (fun _ _ h => h), h.o, h.bl.trans (hk.below h.bl.size (fun _ h => h.elim))⟩
theorem Di.read {w W W' : World} {gs gn gr : Nat} {vk vh : Value} {ks : List ByteArray} {hs : List Int} {b : List UInt8} {bb ob cb : Nat} {st st' : Option (List UInt8)} {pos pos' : Nat} (h : Di w W gs gn gr vk vh ks hs b bb ob cb st pos) (hr : Tk W' gr b bb ob cb st' pos') (hk : Kept (fun y => y = gr) W W') : Di w W' gs gn gr vk vh ks hs b bb ob cb st' pos' :=
  ⟨by rw [hk.block _ (lt_of_heap h.n) (by have := h.o; omega)]; exact h.n, by rw [hk.block _ (lt_of_heap h.s) (by have := h.o; omega)]; exact h.s, hr, h.k.kept hk (fun g hg e => by have := (h.k.lt g hg).1; omega), h.h.kept hk (fun g hg e => by have := (h.h.lt g hg).1; omega), h.o, h.bl.trans (hk.below h.bl.size (fun x hx => by have := h.o; omega))⟩
theorem Di.key {w W W' : World} {gs gn gr : Nat} {vk vh vk' : Value} {ks ks' : List ByteArray} {hs : List Int} {b : List UInt8} {bb ob cb : Nat} {st : Option (List UInt8)} {pos : Nat} (h : Di w W gs gn gr vk vh ks hs b bb ob cb st pos) (he : OwnS (gr + 1) W' vk' ks') (hg : W.grownBy W' vk.ownBlock) : Di w (W'.setCell ⟨gn, 3, none⟩ vk') gs gn gr vk' vh ks' hs b bb ob cb st pos := by
  have hk := grown_kept hg
  have n0 : ∀ y, y ≤ gr → ¬ some y = vk.ownBlock := fun y hy e => by have := (h.k.lt y e.symm).1; omega
  have hn : W'.heap[gn]? = _ := (hk.block gn (lt_of_heap h.n) (n0 gn (by have := h.o; omega))).trans h.n
  have hs' := kept_set (F := fun y => y = gn) W' ⟨gn, 3, none⟩ vk' rfl
  have ho := h.o
  refine ⟨by rw [heap_setCell_same _ _ _ _ _ _ hn]; rfl, ?_, ?_, ?_, ?_, h.o, ?_⟩
  · rw [hs'.block gs (Nat.lt_of_lt_of_le (lt_of_heap h.s) hk.size) (by omega), hk.block gs (lt_of_heap h.s) (n0 gs (by omega))]; exact h.s
  · exact (h.r.kept hk (n0 gr (Nat.le_refl _)) (n0 bb (by omega))).kept hs' (by omega) (by omega)
  · exact he.kept hs' (fun g hg e => by have := (he.lt g hg).1; omega)
  · exact (h.h.kept hk (fun g hg e => ints_str_ne h.k h.h g e.symm hg)).kept hs' (fun g hg e => by have := (h.h.lt g hg).1; omega)
  · refine (h.bl.trans (hk.below h.bl.size (fun x hx => ?_))).trans (hs'.below (Nat.le_trans h.bl.size hk.size) (fun x hx => by omega))
    have := (h.k.lt x hx.symm).1; omega
theorem Di.kid {w W W' : World} {gs gn gr : Nat} {vk vh vh' : Value} {ks : List ByteArray} {hs hs' : List Int} {b : List UInt8} {bb ob cb : Nat} {st : Option (List UInt8)} {pos : Nat} (h : Di w W gs gn gr vk vh ks hs b bb ob cb st pos) (he : OwnI (gr + 1) W' vh' hs') (hg : W.grownBy W' vh.ownBlock) : Di w (W'.setCell ⟨gn, 4, none⟩ vh') gs gn gr vk vh' ks hs' b bb ob cb st pos := by
  have hk := grown_kept hg
  have n0 : ∀ y, y ≤ gr → ¬ some y = vh.ownBlock := fun y hy e => by have := (h.h.lt y e.symm).1; omega
  have hn : W'.heap[gn]? = _ := (hk.block gn (lt_of_heap h.n) (n0 gn (by have := h.o; omega))).trans h.n
  have hs1 := kept_set (F := fun y => y = gn) W' ⟨gn, 4, none⟩ vh' rfl
  have ho := h.o
  refine ⟨by rw [heap_setCell_same _ _ _ _ _ _ hn]; rfl, ?_, ?_, ?_, ?_, h.o, ?_⟩
  · rw [hs1.block gs (Nat.lt_of_lt_of_le (lt_of_heap h.s) hk.size) (by omega), hk.block gs (lt_of_heap h.s) (n0 gs (by omega))]; exact h.s
  · exact (h.r.kept hk (n0 gr (Nat.le_refl _)) (n0 bb (by omega))).kept hs1 (by omega) (by omega)
  · exact (h.k.kept hk (fun g hg e => ints_str_ne h.k h.h g hg e.symm)).kept hs1 (fun g hg e => by have := (h.k.lt g hg).1; omega)
  · exact he.kept hs1 (fun g hg e => by have := (he.lt g hg).1; omega)
  · refine (h.bl.trans (hk.below h.bl.size (fun x hx => ?_))).trans (hs1.below (Nat.le_trans h.bl.size hk.size) (fun x hx => by omega))
    have := (h.h.lt x hx.symm).1; omega
structure Dk (w W : World) (gs gn gr : Nat) (A : Array Value) (b : List UInt8) (bb ob cb : Nat) (st : Option (List UInt8)) (pos : Nat) : Prop where
  n : W.heap[gn]? = some (.cells A 27 (0, 0))
  s : W.heap[gs]? = some (.cells #[.int .i64 0, .slice none 0 0, .slice none 0 0, .slice none 0 0, .slice none 0 0, .int .i64 0, .string ⟨#[]⟩] 27 (0, 0))
  r : Tk W gr b bb ob cb st pos
  o : w.heap.size ≤ gs ∧ gs < gn ∧ gn < gr ∧ bb < w.heap.size
  bl : Below w.heap.size w W
theorem Dk.read {w W W' : World} {gs gn gr : Nat} {A : Array Value} {b : List UInt8} {bb ob cb : Nat} {st st' : Option (List UInt8)} {pos pos' : Nat} (h : Dk w W gs gn gr A b bb ob cb st pos) (hr : Tk W' gr b bb ob cb st' pos') (hk : Kept (fun y => y = gr) W W') : Dk w W' gs gn gr A b bb ob cb st' pos' :=
  ⟨by rw [hk.block _ (lt_of_heap h.n) (by have := h.o; omega)]; exact h.n, by rw [hk.block _ (lt_of_heap h.s) (by have := h.o; omega)]; exact h.s, hr, h.o, h.bl.trans (hk.below h.bl.size (fun x hx => by have := h.o; omega))⟩
theorem Dk.set {w W : World} {gs gn gr : Nat} {A : Array Value} {b : List UInt8} {bb ob cb : Nat} {st : Option (List UInt8)} {pos : Nat} (h : Dk w W gs gn gr A b bb ob cb st pos) (k : Nat) (u : Value) : Dk w (W.setCell ⟨gn, k, none⟩ u) gs gn gr (A.setIfInBounds k u) b bb ob cb st pos := by
  have hs := kept_set (F := fun y => y = gn) W ⟨gn, k, none⟩ u rfl
  have ho := h.o
  exact ⟨heap_setCell_same _ _ _ _ _ _ h.n, by rw [hs.block _ (lt_of_heap h.s) (by omega)]; exact h.s, h.r.kept hs (by omega) (by omega), h.o, h.bl.trans (hs.below h.bl.size (fun x hx => by omega))⟩
theorem wk (x : Int) (h : 0 ≤ x ∧ x < 4294967296) : IntKind.i64.wrap x = x := by rw [IntKind.wrap_i64]; omega
theorem De.kept {w W W' : World} {gs gn gr : Nat} {ve vc : Value} {es : List Ent} {cs : List Int} {b : List UInt8} {bb ob cb : Nat} {st : Option (List UInt8)} {pos : Nat} (h : De w W gs gn gr ve vc es cs b bb ob cb st pos) (hb : Below W.heap.size W W') : De w W' gs gn gr ve vc es cs b bb ob cb st pos := by
  have hk : Kept (fun _ => False) W W' := Below.kept hb _
  exact ⟨by rw [hk.block _ (lt_of_heap h.n) (fun h => h)]; exact h.n, by rw [hk.block _ (lt_of_heap h.s) (fun h => h)]; exact h.s, h.r.kept hk (fun h => h) (fun h => h), h.e.kept hk (fun _ _ h => h), h.i.kept hk (fun _ _ h => h), h.o, h.bl.trans (hb.mono h.bl.size)⟩
theorem Di.alloc {w W : World} {gs gn gr : Nat} {vk vh : Value} {ks : List ByteArray} {hs : List Int} {b : List UInt8} {bb ob cb : Nat} {st : Option (List UInt8)} {pos : Nat} (h : Di w W gs gn gr vk vh ks hs b bb ob cb st pos) (ob' : Obj) : Di w (W.alloc ob') gs gn gr vk vh ks hs b bb ob cb st pos := by
  have hb : Below W.heap.size W (W.alloc ob') := (Below.refl _ _).alloc (Nat.le_refl _) _
  have hk : Kept (fun _ => False) W (W.alloc ob') := Below.kept hb _
  exact ⟨by rw [hk.block _ (lt_of_heap h.n) (fun h => h)]; exact h.n, by rw [hk.block _ (lt_of_heap h.s) (fun h => h)]; exact h.s, h.r.kept hk (fun h => h) (fun h => h), h.k.kept hk (fun _ _ h => h), h.h.kept hk (fun _ _ h => h), h.o, h.bl.alloc h.bl.size ob'⟩
theorem De.box {w W W' : World} {gs gn gr ge : Nat} {ve vc : Value} {es : List Ent} {cs : List Int} {b : List UInt8} {bb ob cb : Nat} {st : Option (List UInt8)} {pos : Nat} (h : De w W gs gn gr ve vc es cs b bb ob cb st pos) (hk : Kept (fun y => y = ge) W W') (hg : gr < ge) (hb : bb < ge) (he : ∀ g, ve.ownBlock = some g → g < ge) (hi : ∀ g, vc.ownBlock = some g → g < ge) : De w W' gs gn gr ve vc es cs b bb ob cb st pos := by
  have ho := h.o
  exact ⟨by rw [hk.block _ (lt_of_heap h.n) (by omega)]; exact h.n, by rw [hk.block _ (lt_of_heap h.s) (by omega)]; exact h.s, h.r.kept hk (by omega) (by omega), h.e.kept hk (fun g q e => by have := he g q; omega), h.i.kept hk (fun g q e => by have := hi g q; omega), h.o, h.bl.trans (hk.below h.bl.size (fun x hx => by omega))⟩
/-- What the document's Decode answers. -/
def RdP (b : List UInt8) (w : World) (e : Ending) (w' : World) : Prop :=
  (Pg b → ∃ v, e = .returned (.tuple #[.agg ((seN b).arr v), .int .i64 0]) ∧ Ow w.heap.size w' v (seN b)) ∧ (¬ Pg b → e = .returned (.tuple #[.agg zN, .int .i64 2])) ∧ Below w.heap.size w w'
end Pt
end Go.Proofs.Ytcdejeejhdpkaaa
end S3

section S4
namespace Go.Proofs.Ytcdejeejhdpkaaa
open Go.RowKit Go.Maps
namespace Pt
set_option maxHeartbeats 8000000 in
set_option maxRecDepth 100000 in
theorem rdec_other (bb ob cb : Nat) (b : List UInt8) (w : World) (hv : Bytes w (.slice (some ⟨bb, ob, none⟩) 512 cb) b) (hl : b.length = 512) (kd : Nat) (h1 : (b.getD 1 0).toNat = kd) (g1 : kd ≠ 1) (g2 : kd ≠ 2) (g3 : kd ≠ 3) :
    Calls Try.prog 18 #[.slice (some ⟨bb, ob, none⟩) 512 cb] w (RdP b w) := by
  have HL := Lib.hid hl
  have V := Lib.hid hv
  have hcb : 512 ≤ cb ∧ cb ≤ 9223372036854775807 := by
    obtain ⟨a2, c2, e, q1, q2, _⟩ := hv
    simp only [Value.slice.injEq] at e
    unfold maxLen at q2
    rw [e.2.2]
    omega
  obtain ⟨hcb1, hcb2⟩ := hcb
  have cel : ∀ k, k < 512 → w.cell? ⟨bb, ob + k, none⟩ = some (.int .u8 ((b.getD k 0).toNat : Int)) := fun k hk => by
    obtain ⟨a2, c2, e, _, _, _, h3⟩ := hv
    simp only [Value.slice.injEq] at e
    obtain ⟨b2, o2, e2, h4⟩ := h3 k (by omega)
    rw [← e.1] at e2
    simp only [Option.some.injEq, Addr.mk.injEq, and_true] at e2
    rw [e2.1, e2.2, h4]
    rfl
  have c1 : w.cell? ⟨bb, ob + 1, none⟩ = some (.int .u8 (kd : Int)) := by rw [cel 1 (by decide), h1]
  have bbl : bb < w.heap.size := block_lt_of_cell c1
  obtain ⟨x2, hx2⟩ : ∃ x, x = (b.getD 2 0).toNat := ⟨_, rfl⟩
  obtain ⟨x3, hx3⟩ : ∃ x, x = (b.getD 3 0).toNat := ⟨_, rfl⟩
  have bx2 : x2 < 256 := by rw [hx2]; exact UInt8.toNat_lt _
  have bx3 : x3 < 256 := by rw [hx3]; exact UInt8.toNat_lt _
  obtain ⟨cnt, hcnt⟩ : ∃ cnt, cnt = leN (sub b 2 2) := ⟨_, rfl⟩
  have hc6 : cnt < 65536 := by rw [hcnt]; exact leN2_lt _
  have hcx : cnt = x2 + x3 * 256 := by
    rw [hcnt, hx2, hx3]
    unfold sub
    rw [drop_one b 2 0 (by omega), drop_one b 3 0 (by omega)]
    simp [leN]; omega
  have CE : (x2 : Int) + (x3 : Int) * 256 = (cnt : Int) := by omega
  have CN := Lib.hid hcnt
  have WE : Hid (IntKind.i64.wrap (x2 : Int) = (x2 : Int) ∧ IntKind.i64.wrap (x3 : Int) = (x3 : Int) ∧ IntKind.i64.wrap ((x3 : Int) * 256) = (x3 : Int) * 256 ∧ IntKind.i64.wrap ((x2 : Int) + (x3 : Int) * 256) = (cnt : Int)) := Lib.hid ⟨wk _ (by omega), wk _ (by omega), wk _ (by omega), by rw [CE]; exact wk _ (by omega)⟩
  obtain ⟨gs, hgs⟩ : ∃ gs, gs = w.heap.size := ⟨_, rfl⟩
  obtain ⟨X1, hX1⟩ : ∃ X1, X1 = w.alloc (.cells #[.int .i64 0, .slice none 0 0, .slice none 0 0, .slice none 0 0, .slice none 0 0, .int .i64 0, .string ⟨#[]⟩] 27) := ⟨_, rfl⟩
  obtain ⟨gn, hgn⟩ : ∃ gn, gn = X1.heap.size := ⟨_, rfl⟩
  obtain ⟨X2z, hX2z⟩ : ∃ X2z, X2z = X1.alloc (.cells #[.int .i64 0, .slice none 0 0, .slice none 0 0, .slice none 0 0, .slice none 0 0, .int .i64 0, .string ⟨#[]⟩] 27) := ⟨_, rfl⟩
  obtain ⟨X2, hX2⟩ : ∃ X2, X2 = X2z.setRow gn #[.int .i64 (kd : Int), .slice none 0 0, .slice none 0 0, .slice none 0 0, .slice none 0 0, .int .i64 0, .string ⟨#[]⟩] := ⟨_, rfl⟩
  have B1 : Below w.heap.size w X1 := by rw [hX1]; exact (Below.refl _ _).alloc (Nat.le_refl _) _
  have s1 : gn = gs + 1 := by rw [hgn, hX1, hgs]; simp
  have s2z : X2z.heap.size = gn + 1 := by rw [hX2z, hgn]; simp
  have G2z : X2z.heap[gn]? = some (.cells #[.int .i64 0, .slice none 0 0, .slice none 0 0, .slice none 0 0, .slice none 0 0, .int .i64 0, .string ⟨#[]⟩] 27 (0, 0)) := by rw [hX2z, hgn]; exact heap_alloc_new _ _
  have K2 : Kept (fun k => k = gn) X2z X2 := by rw [hX2]; exact kept_setRow _ _ _
  have G2 : X2.heap[gn]? = some (.cells #[.int .i64 (kd : Int), .slice none 0 0, .slice none 0 0, .slice none 0 0, .slice none 0 0, .int .i64 0, .string ⟨#[]⟩] 27 (0, 0)) := by rw [hX2]; exact setRow_heap _ _ _ _ _ _ G2z
  have s2 : X2.heap.size = gn + 1 := by rw [hX2]; simp [World.setRow, s2z]
  have B2 : Below w.heap.size w X2 := by
    have h := B1.alloc B1.size (.cells #[.int .i64 0, .slice none 0 0, .slice none 0 0, .slice none 0 0, .slice none 0 0, .int .i64 0, .string ⟨#[]⟩] 27)
    rw [← hX2z] at h
    exact h.trans (K2.below h.size (fun x hx => by omega))
  have Z2 : X2.heap[gs]? = some (.cells #[.int .i64 0, .slice none 0 0, .slice none 0 0, .slice none 0 0, .slice none 0 0, .int .i64 0, .string ⟨#[]⟩] 27 (0, 0)) := by
    rw [K2.block gs (by omega) (by omega), hX2z, Below.heap_alloc _ _ _ (by omega), hX1, hgs]; exact heap_alloc_new _ _
  have W2 : Hid (Below w.heap.size w X2 ∧ X2.heap[gn]? = some (.cells #[.int .i64 (kd : Int), .slice none 0 0, .slice none 0 0, .slice none 0 0, .slice none 0 0, .int .i64 0, .string ⟨#[]⟩] 27 (0, 0)) ∧ X2.heap[gs]? = some (.cells #[.int .i64 0, .slice none 0 0, .slice none 0 0, .slice none 0 0, .slice none 0 0, .int .i64 0, .string ⟨#[]⟩] 27 (0, 0)) ∧ w.heap.size ≤ gs ∧ gs < gn ∧ gn < X2.heap.size ∧ bb < w.heap.size) := Lib.hid ⟨B2, G2, Z2, by omega, by omega, by omega, bbl⟩
  have k1 : X1.cell? ⟨bb, ob + 1, none⟩ = some (.int .u8 (kd : Int)) := by rw [B1.cell (p := ⟨bb, ob + 1, none⟩) (block_lt_of_cell c1)]; exact c1
  have k2 : ∀ M, (X2.drewN M).cell? ⟨bb, ob + 2, none⟩ = some (.int .u8 (x2 : Int)) := fun M => by
    show X2.cell? _ = _
    rw [B2.cell (p := ⟨bb, ob + 2, none⟩) (block_lt_of_cell (cel 2 (by decide))), cel 2 (by decide), hx2]
  have k3 : ∀ M, (X2.drewN M).cell? ⟨bb, ob + 3, none⟩ = some (.int .u8 (x3 : Int)) := fun M => by
    show X2.cell? _ = _
    rw [B2.cell (p := ⟨bb, ob + 3, none⟩) (block_lt_of_cell (cel 3 (by decide))), cel 3 (by decide), hx3]
  have GZ2 := Lib.hid G2z
  have ON1 : Hid ((#[.int .i64 (kd : Int), .slice none 0 0, .slice none 0 0, .slice none 0 0, .slice none 0 0, .int .i64 0, .string ⟨#[]⟩] : Array Value).all (·.oneCell') = true) := Lib.hid (by simp [Value.oneCell'])
  have ONZ : Hid ((#[.int .i64 0, .slice none 0 0, .slice none 0 0, .slice none 0 0, .slice none 0 0, .int .i64 0, .string ⟨#[]⟩] : Array Value).all (·.oneCell') = true) := Lib.hid (by simp [Value.oneCell'])
  have H1 := Lib.hid h1
  have hgs' := hgs.symm; have hX1' := hX1.symm; have hgn' := hgn.symm; have hX2' := hX2.symm; have hX2z' := hX2z.symm
  have bkd : kd < 256 := by rw [← h1]; exact UInt8.toNat_lt _
  have e1 : ((kd : Int) == 1) = false := by rw [beq_eq_false_iff_ne]; omega
  have e2 : ((kd : Int) == 2) = false := by rw [beq_eq_false_iff_ne]; omega
  have e3 : ((kd : Int) == 3) = false := by rw [beq_eq_false_iff_ne]; omega
  clear hgs hX1 hgn hX2 hX2z B1 B2 hv hl h1 bbl hcnt s1 s2 s2z G2z K2 G2 Z2 cel hx2 hx3 hcx
  go_enter Try.func18, Try.ntmps18
  go_wp2_with (first | (refine wpList_store_row rfl 27 (.tmp 4) (.tmp 26) rfl gn #[.int .i64 (kd : Int), .slice none 0 0, .slice none 0 0, .slice none 0 0, .slice none 0 0, .int .i64 0, .string ⟨#[]⟩] rfl rfl 27 #[.int .i64 0, .slice none 0 0, .slice none 0 0, .slice none 0 0, .slice none 0 0, .int .i64 0, .string ⟨#[]⟩] GZ2.out size_node rfl ON1.out ?_; rw [hX2']))
  clear hgs' hX1' hgn' hX2' hX2z' k1 c1
  go_quiet (fail)
  simp only [WE.out.1, WE.out.2.1, WE.out.2.2.1, WE.out.2.2.2]
  obtain ⟨wd, hwd⟩ : ∃ W, W = X2.drewN nq := ⟨_, rfl⟩
  obtain ⟨gr, hgr⟩ : ∃ gr, gr = wd.heap.size := ⟨_, rfl⟩
  obtain ⟨X3, hX3⟩ : ∃ X3, X3 = wd.alloc (.cells #[.slice (some ⟨bb, ob, none⟩) 512 cb, .int .i64 8, .bool false] 54) := ⟨_, rfl⟩
  have BD : Below X2.heap.size X2 X3 := by rw [hX3, hwd]; exact (below_drawn X2 nq).alloc (Nat.le_refl _) _
  have SG : gr = X2.heap.size := by rw [hgr, hwd]; rfl
  have S0 : Hid (Dk w X3 gs gn gr #[.int .i64 (kd : Int), .slice none 0 0, .slice none 0 0, .slice none 0 0, .slice none 0 0, .int .i64 0, .string ⟨#[]⟩] b bb ob cb (some (b.drop 8)) 8) := Lib.hid (by
    obtain ⟨q1, q2, q3, q4, q5, q6, q7⟩ := W2.out
    have hb : Below w.heap.size w X3 := q1.trans (BD.mono q1.size)
    exact ⟨by rw [BD.block gn q6]; exact q2, by rw [BD.block gs (by omega)]; exact q3, ⟨by rw [hX3, hgr]; exact heap_alloc_new _ _, V.out.below hb, by decide, fun x e => by cases e; rfl, by omega, Nat.lt_of_lt_of_le q7 hb.size, HL.out⟩, ⟨q4, q5, by omega, q7⟩, hb⟩)
  obtain ⟨n0, n1, n2, n3, n4, n5, n6⟩ := node_cells S0.out.n
  have hgr' := hgr.symm; have hX3' := hX3.symm
  rw [← hwd]
  clear hgr hX3 BD SG hwd k2 k3
  have SE : Hid (seN b = seO b) := Lib.hid (by
    have q := H1.out
    unfold seN
    rw [if_neg (fun e => g1 (by rw [← q, e]; rfl)), if_neg (fun e => g2 (by rw [← q, e]; rfl)), if_neg (fun e => g3 (by rw [← q, e]; rfl))])
  have NA : Hid ((seN b).arr ⟨.slice none 0 0, .slice none 0 0, .slice none 0 0, .slice none 0 0⟩ = #[.int .i64 (kd : Int), .slice none 0 0, .slice none 0 0, .slice none 0 0, .slice none 0 0, .int .i64 0, .string ⟨#[]⟩]) := Lib.hid (by rw [SE.out, ← H1.out]; rfl)
  have OW : Hid (Ow (gr + 1) X3 ⟨.slice none 0 0, .slice none 0 0, .slice none 0 0, .slice none 0 0⟩ (seN b)) := Lib.hid (by rw [SE.out]; exact ⟨World.ownsRow_nil _ _ _ _, World.ownsRow_nil _ _ _ _, World.ownsRow_nil _ _ _ _, World.ownsRow_nil _ _ _ _, fun g h => by cases h⟩)
  have TF : X3.cell? ⟨gr, 2, none⟩ = some (.bool false) := by rw [cell_of_row X3 gr 2 _ _ _ S0.out.r.h]; rfl
  obtain ⟨p0, p1, p2, p3, p4, p5, p6⟩ : _ := node_cells S0.out.n
  clear n0 n1 n2 n3 n4 n5 n6
  have ONN : Hid ((#[.int .i64 (kd : Int), .slice none 0 0, .slice none 0 0, .slice none 0 0, .slice none 0 0, .int .i64 0, .string ⟨#[]⟩] : Array Value).all (·.oneCell') = true) := Lib.hid (by simp [Value.oneCell'])
  cases hf : fitB (seN b) with
  | false =>
    have EC : Hid (Calls Try.prog 33 #[.agg #[.int .i64 (kd : Int), .slice none 0 0, .slice none 0 0, .slice none 0 0, .slice none 0 0, .int .i64 0, .string ⟨#[]⟩]] X3 fun e w' => e = .returned (.tuple #[.slice none 0 0, .int .i64 1]) ∧ Below X3.heap.size X3 w') := Lib.hid (by rw [← NA.out]; exact renc_no (seN b) _ X3 OW.out.ls (se_sz b) hf)
    have NP : Hid (¬ Pg b) := Lib.hid (fun hp => by rw [hp.1] at hf; cases hf)
    clear hf
    go_wp2_with (first | (go_at_call 33; refine EC.out.mono ?_; rintro e w4 ⟨rfl, q2⟩; have BQ := Lib.hid q2; have GS : Hid (w4.heap[gs]? = some (.cells #[.int .i64 0, .slice none 0 0, .slice none 0 0, .slice none 0 0, .slice none 0 0, .int .i64 0, .string ⟨#[]⟩] 27 (0, 0))) := Lib.hid (by rw [q2.block gs (lt_of_heap S0.out.s)]; exact S0.out.s); clear q2) | (refine wpList_store_row rfl 27 (.tmp 2) (.tmp 153) rfl gs #[.int .i64 0, .slice none 0 0, .slice none 0 0, .slice none 0 0, .slice none 0 0, .int .i64 0, .string ⟨#[]⟩] rfl rfl 27 #[.int .i64 0, .slice none 0 0, .slice none 0 0, .slice none 0 0, .slice none 0 0, .int .i64 0, .string ⟨#[]⟩] GS.out size_node rfl ONZ.out ?_))
    refine bodyPost_ret (results_cell1 rfl _ _ ⟨gs, 0, none⟩ (.agg zN) rfl (load_node (setRow_heap _ _ _ _ _ _ GS.out) rfl)) rfl ?_
    have bw : Below w.heap.size w w4 := S0.out.bl.trans (BQ.out.mono S0.out.bl.size)
    exact ⟨fun hp => absurd hp NP.out, fun _ => rfl, bw.trans ((kept_setRow _ _ _).below bw.size (fun x hx => by have := S0.out.o; omega))⟩
  | true =>
    have EC : Hid (Calls Try.prog 33 #[.agg #[.int .i64 (kd : Int), .slice none 0 0, .slice none 0 0, .slice none 0 0, .slice none 0 0, .int .i64 0, .string ⟨#[]⟩]] X3 fun e w' => ∃ v', e = .returned (.tuple #[v', .int .i64 0]) ∧ Own X3.heap.size w' v' (encN (seN b)) ∧ Below X3.heap.size X3 w') := Lib.hid (by rw [← NA.out]; exact renc_yes (seN b) _ X3 OW.out.ls (se_sz b) hf)
    have HF := Lib.hid hf
    clear hf
    by_cases hp : encN (seN b) = b
    · have PB : Hid (Pg b) := Lib.hid ⟨HF.out, hp⟩
      go_wp2_with fail
      refine EC.out.mono ?_
      rintro e w4 ⟨v4, rfl, q1, q2⟩
      have BQ := Lib.hid q2
      have GS : Hid (w4.heap[gs]? = some (.cells #[.int .i64 0, .slice none 0 0, .slice none 0 0, .slice none 0 0, .slice none 0 0, .int .i64 0, .string ⟨#[]⟩] 27 (0, 0))) := Lib.hid (by rw [q2.block gs (lt_of_heap S0.out.s)]; exact S0.out.s)
      have GN : Hid (w4.heap[gn]? = _) := Lib.hid ((q2.block gn (lt_of_heap S0.out.n)).trans S0.out.n)
      obtain ⟨y0, y1, y2, y3, y4, y5, y6⟩ := node_cells GN.out
      have cvA := convT q1.bytes
      rw [hp] at cvA
      have cvB : (convert 33 9 (.slice (some ⟨bb, ob, none⟩) 512 cb)).run Try.prog w4 = .ok (.string (txt b)) w4 := convT (((S0.out.r.y).below q2))
      clear q1 q2 p0 p1 p2 p3 p4 p5 p6 TF hp
      go_wp2_with (first | (refine wpList_store_row rfl 27 (.tmp 2) (.tmp 154) rfl gs #[.int .i64 (kd : Int), .slice none 0 0, .slice none 0 0, .slice none 0 0, .slice none 0 0, .int .i64 0, .string ⟨#[]⟩] rfl rfl 27 #[.int .i64 0, .slice none 0 0, .slice none 0 0, .slice none 0 0, .slice none 0 0, .int .i64 0, .string ⟨#[]⟩] GS.out size_node rfl ONN.out ?_))
      refine bodyPost_ret (results_cell1 rfl _ _ ⟨gs, 0, none⟩ (.agg #[.int .i64 (kd : Int), .slice none 0 0, .slice none 0 0, .slice none 0 0, .slice none 0 0, .int .i64 0, .string ⟨#[]⟩]) rfl (load_node (setRow_heap _ _ _ _ _ _ GS.out) rfl)) rfl ?_
      have bw : Below w.heap.size w w4 := S0.out.bl.trans (BQ.out.mono S0.out.bl.size)
      refine ⟨fun _ => ⟨⟨.slice none 0 0, .slice none 0 0, .slice none 0 0, .slice none 0 0⟩, by rw [NA.out]; rfl, ?_⟩, fun hn => absurd PB.out hn, bw.trans ((kept_setRow _ _ _).below bw.size (fun x hx => by have := S0.out.o; omega))⟩
      exact ((OW.out.below BQ.out).kept (kept_setRow _ _ _) (fun y hy e => by have := S0.out.o; omega)).mono (by have := S0.out.o; omega)
    · have NP : Hid (¬ Pg b) := Lib.hid (fun h => hp h.2)
      have NE := Lib.hid hp
      clear hp
      go_wp2_with fail
      refine EC.out.mono ?_
      rintro e w4 ⟨v4, rfl, q1, q2⟩
      have BQ := Lib.hid q2
      have GS : Hid (w4.heap[gs]? = some (.cells #[.int .i64 0, .slice none 0 0, .slice none 0 0, .slice none 0 0, .slice none 0 0, .int .i64 0, .string ⟨#[]⟩] 27 (0, 0))) := Lib.hid (by rw [q2.block gs (lt_of_heap S0.out.s)]; exact S0.out.s)
      have cvA := convT q1.bytes
      have cvB : (convert 33 9 (.slice (some ⟨bb, ob, none⟩) 512 cb)).run Try.prog w4 = .ok (.string (txt b)) w4 := convT (((S0.out.r.y).below q2))
      have ge : ((txt (encN (seN b))).toList == (txt b).toList) = false := by rw [ByteArray.toList_eq, ByteArray.toList_eq, beq_eq_false_iff_ne]; exact NE.out
      have ge2 : ((txt (encN (seN b))).toList != (txt b).toList) = true := by rw [bne, ge]; rfl
      clear q1 q2 p0 p1 p2 p3 p4 p5 p6 TF
      go_wp2_with (first | (refine wpList_store_row rfl 27 (.tmp 2) (.tmp 153) rfl gs #[.int .i64 0, .slice none 0 0, .slice none 0 0, .slice none 0 0, .slice none 0 0, .int .i64 0, .string ⟨#[]⟩] rfl rfl 27 #[.int .i64 0, .slice none 0 0, .slice none 0 0, .slice none 0 0, .slice none 0 0, .int .i64 0, .string ⟨#[]⟩] GS.out size_node rfl ONZ.out ?_))
      refine bodyPost_ret (results_cell1 rfl _ _ ⟨gs, 0, none⟩ (.agg zN) rfl (load_node (setRow_heap _ _ _ _ _ _ GS.out) rfl)) rfl ?_
      have bw : Below w.heap.size w w4 := S0.out.bl.trans (BQ.out.mono S0.out.bl.size)
      exact ⟨fun hp => absurd hp NP.out, fun _ => rfl, bw.trans ((kept_setRow _ _ _).below bw.size (fun x hx => by have := S0.out.o; omega))⟩
end Pt
end Go.Proofs.Ytcdejeejhdpkaaa
end S4

section S5
namespace Go.Proofs.Ytcdejeejhdpkaaa
open Go.RowKit Go.Maps
namespace Pt
set_option maxHeartbeats 8000000 in
set_option maxRecDepth 100000 in
theorem rdec_chain (bb ob cb : Nat) (b : List UInt8) (w : World) (hv : Bytes w (.slice (some ⟨bb, ob, none⟩) 512 cb) b) (hl : b.length = 512) (h1 : b.getD 1 0 = 3) :
    Calls Try.prog 18 #[.slice (some ⟨bb, ob, none⟩) 512 cb] w (RdP b w) := by
  have HL := Lib.hid hl
  have V := Lib.hid hv
  have hcb : 512 ≤ cb ∧ cb ≤ 9223372036854775807 := by
    obtain ⟨a2, c2, e, q1, q2, _⟩ := hv
    simp only [Value.slice.injEq] at e
    unfold maxLen at q2
    rw [e.2.2]
    omega
  obtain ⟨hcb1, hcb2⟩ := hcb
  have cel : ∀ k, k < 512 → w.cell? ⟨bb, ob + k, none⟩ = some (.int .u8 ((b.getD k 0).toNat : Int)) := fun k hk => by
    obtain ⟨a2, c2, e, _, _, _, h3⟩ := hv
    simp only [Value.slice.injEq] at e
    obtain ⟨b2, o2, e2, h4⟩ := h3 k (by omega)
    rw [← e.1] at e2
    simp only [Option.some.injEq, Addr.mk.injEq, and_true] at e2
    rw [e2.1, e2.2, h4]
    rfl
  have c1 : w.cell? ⟨bb, ob + 1, none⟩ = some (.int .u8 3) := by rw [cel 1 (by decide), h1]; rfl
  have bbl : bb < w.heap.size := block_lt_of_cell c1
  obtain ⟨x2, hx2⟩ : ∃ x, x = (b.getD 2 0).toNat := ⟨_, rfl⟩
  obtain ⟨x3, hx3⟩ : ∃ x, x = (b.getD 3 0).toNat := ⟨_, rfl⟩
  have bx2 : x2 < 256 := by rw [hx2]; exact UInt8.toNat_lt _
  have bx3 : x3 < 256 := by rw [hx3]; exact UInt8.toNat_lt _
  obtain ⟨cnt, hcnt⟩ : ∃ cnt, cnt = leN (sub b 2 2) := ⟨_, rfl⟩
  have hc6 : cnt < 65536 := by rw [hcnt]; exact leN2_lt _
  have hcx : cnt = x2 + x3 * 256 := by
    rw [hcnt, hx2, hx3]
    unfold sub
    rw [drop_one b 2 0 (by omega), drop_one b 3 0 (by omega)]
    simp [leN]; omega
  have CE : (x2 : Int) + (x3 : Int) * 256 = (cnt : Int) := by omega
  have CN := Lib.hid hcnt
  have WE : Hid (IntKind.i64.wrap (x2 : Int) = (x2 : Int) ∧ IntKind.i64.wrap (x3 : Int) = (x3 : Int) ∧ IntKind.i64.wrap ((x3 : Int) * 256) = (x3 : Int) * 256 ∧ IntKind.i64.wrap ((x2 : Int) + (x3 : Int) * 256) = (cnt : Int)) := Lib.hid ⟨wk _ (by omega), wk _ (by omega), wk _ (by omega), by rw [CE]; exact wk _ (by omega)⟩
  obtain ⟨gs, hgs⟩ : ∃ gs, gs = w.heap.size := ⟨_, rfl⟩
  obtain ⟨X1, hX1⟩ : ∃ X1, X1 = w.alloc (.cells #[.int .i64 0, .slice none 0 0, .slice none 0 0, .slice none 0 0, .slice none 0 0, .int .i64 0, .string ⟨#[]⟩] 27) := ⟨_, rfl⟩
  obtain ⟨gn, hgn⟩ : ∃ gn, gn = X1.heap.size := ⟨_, rfl⟩
  obtain ⟨X2z, hX2z⟩ : ∃ X2z, X2z = X1.alloc (.cells #[.int .i64 0, .slice none 0 0, .slice none 0 0, .slice none 0 0, .slice none 0 0, .int .i64 0, .string ⟨#[]⟩] 27) := ⟨_, rfl⟩
  obtain ⟨X2, hX2⟩ : ∃ X2, X2 = X2z.setRow gn #[.int .i64 3, .slice none 0 0, .slice none 0 0, .slice none 0 0, .slice none 0 0, .int .i64 0, .string ⟨#[]⟩] := ⟨_, rfl⟩
  have B1 : Below w.heap.size w X1 := by rw [hX1]; exact (Below.refl _ _).alloc (Nat.le_refl _) _
  have s1 : gn = gs + 1 := by rw [hgn, hX1, hgs]; simp
  have s2z : X2z.heap.size = gn + 1 := by rw [hX2z, hgn]; simp
  have G2z : X2z.heap[gn]? = some (.cells #[.int .i64 0, .slice none 0 0, .slice none 0 0, .slice none 0 0, .slice none 0 0, .int .i64 0, .string ⟨#[]⟩] 27 (0, 0)) := by rw [hX2z, hgn]; exact heap_alloc_new _ _
  have K2 : Kept (fun k => k = gn) X2z X2 := by rw [hX2]; exact kept_setRow _ _ _
  have G2 : X2.heap[gn]? = some (.cells #[.int .i64 3, .slice none 0 0, .slice none 0 0, .slice none 0 0, .slice none 0 0, .int .i64 0, .string ⟨#[]⟩] 27 (0, 0)) := by rw [hX2]; exact setRow_heap _ _ _ _ _ _ G2z
  have s2 : X2.heap.size = gn + 1 := by rw [hX2]; simp [World.setRow, s2z]
  have B2 : Below w.heap.size w X2 := by
    have h := B1.alloc B1.size (.cells #[.int .i64 0, .slice none 0 0, .slice none 0 0, .slice none 0 0, .slice none 0 0, .int .i64 0, .string ⟨#[]⟩] 27)
    rw [← hX2z] at h
    exact h.trans (K2.below h.size (fun x hx => by omega))
  have Z2 : X2.heap[gs]? = some (.cells #[.int .i64 0, .slice none 0 0, .slice none 0 0, .slice none 0 0, .slice none 0 0, .int .i64 0, .string ⟨#[]⟩] 27 (0, 0)) := by
    rw [K2.block gs (by omega) (by omega), hX2z, Below.heap_alloc _ _ _ (by omega), hX1, hgs]; exact heap_alloc_new _ _
  have W2 : Hid (Below w.heap.size w X2 ∧ X2.heap[gn]? = some (.cells #[.int .i64 3, .slice none 0 0, .slice none 0 0, .slice none 0 0, .slice none 0 0, .int .i64 0, .string ⟨#[]⟩] 27 (0, 0)) ∧ X2.heap[gs]? = some (.cells #[.int .i64 0, .slice none 0 0, .slice none 0 0, .slice none 0 0, .slice none 0 0, .int .i64 0, .string ⟨#[]⟩] 27 (0, 0)) ∧ w.heap.size ≤ gs ∧ gs < gn ∧ gn < X2.heap.size ∧ bb < w.heap.size) := Lib.hid ⟨B2, G2, Z2, by omega, by omega, by omega, bbl⟩
  have k1 : X1.cell? ⟨bb, ob + 1, none⟩ = some (.int .u8 3) := by rw [B1.cell (p := ⟨bb, ob + 1, none⟩) (block_lt_of_cell c1)]; exact c1
  have k2 : ∀ M, (X2.drewN M).cell? ⟨bb, ob + 2, none⟩ = some (.int .u8 (x2 : Int)) := fun M => by
    show X2.cell? _ = _
    rw [B2.cell (p := ⟨bb, ob + 2, none⟩) (block_lt_of_cell (cel 2 (by decide))), cel 2 (by decide), hx2]
  have k3 : ∀ M, (X2.drewN M).cell? ⟨bb, ob + 3, none⟩ = some (.int .u8 (x3 : Int)) := fun M => by
    show X2.cell? _ = _
    rw [B2.cell (p := ⟨bb, ob + 3, none⟩) (block_lt_of_cell (cel 3 (by decide))), cel 3 (by decide), hx3]
  have GZ2 := Lib.hid G2z
  have ON1 : Hid ((#[.int .i64 3, .slice none 0 0, .slice none 0 0, .slice none 0 0, .slice none 0 0, .int .i64 0, .string ⟨#[]⟩] : Array Value).all (·.oneCell') = true) := Lib.hid (by simp [Value.oneCell'])
  have ONZ : Hid ((#[.int .i64 0, .slice none 0 0, .slice none 0 0, .slice none 0 0, .slice none 0 0, .int .i64 0, .string ⟨#[]⟩] : Array Value).all (·.oneCell') = true) := Lib.hid (by simp [Value.oneCell'])
  have H1 := Lib.hid h1
  have hgs' := hgs.symm; have hX1' := hX1.symm; have hgn' := hgn.symm; have hX2' := hX2.symm; have hX2z' := hX2z.symm
  clear hgs hX1 hgn hX2 hX2z B1 B2 hv hl h1 bbl hcnt s1 s2 s2z G2z K2 G2 Z2 cel hx2 hx3 hcx
  go_enter Try.func18, Try.ntmps18
  go_wp2_with (first | (refine wpList_store_row rfl 27 (.tmp 4) (.tmp 26) rfl gn #[.int .i64 3, .slice none 0 0, .slice none 0 0, .slice none 0 0, .slice none 0 0, .int .i64 0, .string ⟨#[]⟩] rfl rfl 27 #[.int .i64 0, .slice none 0 0, .slice none 0 0, .slice none 0 0, .slice none 0 0, .int .i64 0, .string ⟨#[]⟩] GZ2.out size_node rfl ON1.out ?_; rw [hX2']))
  clear hgs' hX1' hgn' hX2' hX2z' k1 c1
  go_quiet (fail)
  simp only [WE.out.1, WE.out.2.1, WE.out.2.2.1, WE.out.2.2.2]
  obtain ⟨wd, hwd⟩ : ∃ W, W = X2.drewN nq := ⟨_, rfl⟩
  obtain ⟨gr, hgr⟩ : ∃ gr, gr = wd.heap.size := ⟨_, rfl⟩
  obtain ⟨X3, hX3⟩ : ∃ X3, X3 = wd.alloc (.cells #[.slice (some ⟨bb, ob, none⟩) 512 cb, .int .i64 8, .bool false] 54) := ⟨_, rfl⟩
  have BD : Below X2.heap.size X2 X3 := by rw [hX3, hwd]; exact (below_drawn X2 nq).alloc (Nat.le_refl _) _
  have SG : gr = X2.heap.size := by rw [hgr, hwd]; rfl
  have S0 : Hid (Dk w X3 gs gn gr #[.int .i64 3, .slice none 0 0, .slice none 0 0, .slice none 0 0, .slice none 0 0, .int .i64 0, .string ⟨#[]⟩] b bb ob cb (some (b.drop 8)) 8) := Lib.hid (by
    obtain ⟨q1, q2, q3, q4, q5, q6, q7⟩ := W2.out
    have hb : Below w.heap.size w X3 := q1.trans (BD.mono q1.size)
    exact ⟨by rw [BD.block gn q6]; exact q2, by rw [BD.block gs (by omega)]; exact q3, ⟨by rw [hX3, hgr]; exact heap_alloc_new _ _, V.out.below hb, by decide, fun x e => by cases e; rfl, by omega, Nat.lt_of_lt_of_le q7 hb.size, HL.out⟩, ⟨q4, q5, by omega, q7⟩, hb⟩)
  obtain ⟨n0, n1, n2, n3, n4, n5, n6⟩ := node_cells S0.out.n
  have hgr' := hgr.symm; have hX3' := hX3.symm
  rw [← hwd]
  clear hgr hX3 BD SG hwd k2 k3
  have E0 : Hid (tkS (some (b.drop 8)) 4 = some ((b.drop 8).drop 4) ∧ tkN (some (b.drop 8)) 4 = leN ((b.drop 8).take 4)) := Lib.hid (by
    have q : 4 ≤ (b.drop 8).length := by rw [List.length_drop, HL.out]; omega
    simp only [tkS, tkN, if_pos q]; exact ⟨trivial, trivial⟩)
  obtain ⟨nx, hnx⟩ : ∃ x, x = leN ((b.drop 8).take 4) := ⟨_, rfl⟩
  have bnx : nx < 4294967296 := by rw [hnx]; exact leN4_lt _
  have C1 := Lib.hid (number_any gr bb ob cb 8 b (some (b.drop 8)) X3 S0.out.r)
  rw [E0.out.1, E0.out.2, ← hnx] at C1
  obtain ⟨dt, hdt⟩ : ∃ x, x = tkT (some ((b.drop 8).drop 4)) cnt := ⟨_, rfl⟩
  obtain ⟨st, hst⟩ : ∃ x, x = tkS (some ((b.drop 8).drop 4)) cnt := ⟨_, rfl⟩
  have HN := Lib.hid hnx
  have HD := Lib.hid (And.intro hdt hst)
  clear hnx hdt hst
  go_wp2_with fail
  refine C1.out.mono ?_
  rintro e w1 ⟨q1, rfl, t1, k1⟩
  have S1 := Lib.hid (S0.out.read t1 k1)
  clear t1 k1 n0 n1 n2 n3 n4 n5 n6 C1
  have f5 : w1.frozen? ⟨gn, 5, none⟩ = false := frozen_of_row _ _ _ _ _ S1.out.n
  obtain ⟨m0, m1, m2, m3, m4, m5, m6⟩ := node_cells S1.out.n
  obtain ⟨Y, hY⟩ : ∃ Y, w1.setCell ⟨gn, 5, none⟩ (.int .i64 (nx : Int)) = Y := ⟨_, rfl⟩
  have S2 : Hid (Dk w Y gs gn gr #[.int .i64 3, .slice none 0 0, .slice none 0 0, .slice none 0 0, .slice none 0 0, .int .i64 (nx : Int), .string ⟨#[]⟩] b bb ob cb (some ((b.drop 8).drop 4)) q1) := Lib.hid (by rw [← hY]; exact S1.out.set 5 _)
  have C2 := Lib.hid (text_any gr bb ob cb cnt q1 b _ Y S2.out.r (by omega))
  rw [← HD.out.1, ← HD.out.2] at C2
  go_wp2_with fail
  refine C2.out.mono ?_
  rintro e w2 ⟨q2, rfl, t2, k2⟩
  have S3 := Lib.hid (S2.out.read t2 k2)
  clear t2 k2 m0 m1 m2 m3 m4 m5 m6 hY C2 f5
  have f6 : w2.frozen? ⟨gn, 6, none⟩ = false := frozen_of_row _ _ _ _ _ S3.out.n
  obtain ⟨m0, m1, m2, m3, m4, m5, m6⟩ := node_cells S3.out.n
  obtain ⟨Y2, hY2⟩ : ∃ Y, w2.setCell ⟨gn, 6, none⟩ (.string dt) = Y := ⟨_, rfl⟩
  have S4 : Hid (Dk w Y2 gs gn gr #[.int .i64 3, .slice none 0 0, .slice none 0 0, .slice none 0 0, .slice none 0 0, .int .i64 (nx : Int), .string dt] b bb ob cb st q2) := Lib.hid (by rw [← hY2]; exact S3.out.set 6 _)
  have r4 : Y2.cell? ⟨gr, 2, none⟩ = some (.bool st.isNone) := by rw [cell_of_row Y2 gr 2 _ _ _ S4.out.r.h]; rfl
  cases st with
  | none =>
    have NP : Hid (¬ Pg b) := Lib.hid (fun hp => by
      have q := ch_pg hp H1.out
      rw [← CN.out] at q
      have z := HD.out.2
      have hh : cnt ≤ ((b.drop 8).drop 4).length := by rw [List.length_drop, List.length_drop, HL.out]; omega
      have y : tkS (some ((b.drop 8).drop 4)) cnt = some (((b.drop 8).drop 4).drop cnt) := by simp only [tkS, if_pos hh]
      rw [y] at z
      cases z)
    simp only [Option.isNone_none] at r4
    go_wp2_with (first | (refine wpList_store_row rfl 27 (.tmp 2) (.tmp 138) rfl gs #[.int .i64 0, .slice none 0 0, .slice none 0 0, .slice none 0 0, .slice none 0 0, .int .i64 0, .string ⟨#[]⟩] rfl rfl 27 #[.int .i64 0, .slice none 0 0, .slice none 0 0, .slice none 0 0, .slice none 0 0, .int .i64 0, .string ⟨#[]⟩] S4.out.s size_node rfl ONZ.out ?_))
    refine bodyPost_ret (results_cell1 rfl _ _ ⟨gs, 0, none⟩ (.agg zN) rfl (load_node (setRow_heap _ _ _ _ _ _ S4.out.s) rfl)) rfl ?_
    exact ⟨fun hp => absurd hp NP.out, fun _ => rfl, S4.out.bl.trans ((kept_setRow _ _ _).below S4.out.bl.size (fun x hx => by have := S4.out.o; omega))⟩
  | some l' =>
    simp only [Option.isNone_some] at r4
    have SE : Hid (seN b = ⟨3, [], [], [], [], (nx : Int), dt⟩) := Lib.hid (by
      have q := H1.out
      unfold seN
      rw [if_neg (by rw [q]; decide), if_neg (by rw [q]; decide), if_pos q]
      unfold seC
      rw [← HN.out, ← CN.out]
      obtain ⟨l0, z0, _, _, z4, _⟩ := tkS_some HD.out.2.symm
      cases z0
      rw [← z4, ← HD.out.1])
    have NA : Hid ((seN b).arr ⟨.slice none 0 0, .slice none 0 0, .slice none 0 0, .slice none 0 0⟩ = #[.int .i64 3, .slice none 0 0, .slice none 0 0, .slice none 0 0, .slice none 0 0, .int .i64 (nx : Int), .string dt]) := Lib.hid (by rw [SE.out]; rfl)
    have OW : Hid (Ow (gr + 1) Y2 ⟨.slice none 0 0, .slice none 0 0, .slice none 0 0, .slice none 0 0⟩ (seN b)) := Lib.hid (by rw [SE.out]; exact ⟨World.ownsRow_nil _ _ _ _, World.ownsRow_nil _ _ _ _, World.ownsRow_nil _ _ _ _, World.ownsRow_nil _ _ _ _, fun g h => by cases h⟩)
    skip
    obtain ⟨p0, p1, p2, p3, p4, p5, p6⟩ := node_cells S4.out.n
    have ONN : Hid ((#[.int .i64 3, .slice none 0 0, .slice none 0 0, .slice none 0 0, .slice none 0 0, .int .i64 (nx : Int), .string dt] : Array Value).all (·.oneCell') = true) := Lib.hid (by simp [Value.oneCell'])
    cases hf : fitB (seN b) with
    | false =>
      have EC : Hid (Calls Try.prog 33 #[.agg #[.int .i64 3, .slice none 0 0, .slice none 0 0, .slice none 0 0, .slice none 0 0, .int .i64 (nx : Int), .string dt]] Y2 fun e w' => e = .returned (.tuple #[.slice none 0 0, .int .i64 1]) ∧ Below Y2.heap.size Y2 w') := Lib.hid (by rw [← NA.out]; exact renc_no (seN b) _ Y2 OW.out.ls (se_sz b) hf)
      have NP : Hid (¬ Pg b) := Lib.hid (fun hp => by rw [hp.1] at hf; cases hf)
      clear hf
      go_wp2_with (first | (go_at_call 33; refine EC.out.mono ?_; rintro e w4 ⟨rfl, q2⟩; have BQ := Lib.hid q2; have GS : Hid (w4.heap[gs]? = some (.cells #[.int .i64 0, .slice none 0 0, .slice none 0 0, .slice none 0 0, .slice none 0 0, .int .i64 0, .string ⟨#[]⟩] 27 (0, 0))) := Lib.hid (by rw [q2.block gs (lt_of_heap S4.out.s)]; exact S4.out.s); clear q2) | (refine wpList_store_row rfl 27 (.tmp 2) (.tmp 153) rfl gs #[.int .i64 0, .slice none 0 0, .slice none 0 0, .slice none 0 0, .slice none 0 0, .int .i64 0, .string ⟨#[]⟩] rfl rfl 27 #[.int .i64 0, .slice none 0 0, .slice none 0 0, .slice none 0 0, .slice none 0 0, .int .i64 0, .string ⟨#[]⟩] GS.out size_node rfl ONZ.out ?_))
      refine bodyPost_ret (results_cell1 rfl _ _ ⟨gs, 0, none⟩ (.agg zN) rfl (load_node (setRow_heap _ _ _ _ _ _ GS.out) rfl)) rfl ?_
      have bw : Below w.heap.size w w4 := S4.out.bl.trans (BQ.out.mono S4.out.bl.size)
      exact ⟨fun hp => absurd hp NP.out, fun _ => rfl, bw.trans ((kept_setRow _ _ _).below bw.size (fun x hx => by have := S4.out.o; omega))⟩
    | true =>
      have EC : Hid (Calls Try.prog 33 #[.agg #[.int .i64 3, .slice none 0 0, .slice none 0 0, .slice none 0 0, .slice none 0 0, .int .i64 (nx : Int), .string dt]] Y2 fun e w' => ∃ v', e = .returned (.tuple #[v', .int .i64 0]) ∧ Own Y2.heap.size w' v' (encN (seN b)) ∧ Below Y2.heap.size Y2 w') := Lib.hid (by rw [← NA.out]; exact renc_yes (seN b) _ Y2 OW.out.ls (se_sz b) hf)
      have HF := Lib.hid hf
      clear hf
      by_cases hp : encN (seN b) = b
      · have PB : Hid (Pg b) := Lib.hid ⟨HF.out, hp⟩
        go_wp2_with fail
        refine EC.out.mono ?_
        rintro e w4 ⟨v4, rfl, q1, q2⟩
        have BQ := Lib.hid q2
        have GS : Hid (w4.heap[gs]? = some (.cells #[.int .i64 0, .slice none 0 0, .slice none 0 0, .slice none 0 0, .slice none 0 0, .int .i64 0, .string ⟨#[]⟩] 27 (0, 0))) := Lib.hid (by rw [q2.block gs (lt_of_heap S4.out.s)]; exact S4.out.s)
        have GN : Hid (w4.heap[gn]? = _) := Lib.hid ((q2.block gn (lt_of_heap S4.out.n)).trans S4.out.n)
        obtain ⟨y0, y1, y2, y3, y4, y5, y6⟩ := node_cells GN.out
        have cvA := convT q1.bytes
        rw [hp] at cvA
        have cvB : (convert 33 9 (.slice (some ⟨bb, ob, none⟩) 512 cb)).run Try.prog w4 = .ok (.string (txt b)) w4 := convT (((S4.out.r.y).below q2))
        clear q1 q2 p0 p1 p2 p3 p4 p5 p6 r4 m0 m1 m2 m3 m4 m5 m6 hp
        go_wp2_with (first | (refine wpList_store_row rfl 27 (.tmp 2) (.tmp 154) rfl gs #[.int .i64 3, .slice none 0 0, .slice none 0 0, .slice none 0 0, .slice none 0 0, .int .i64 (nx : Int), .string dt] rfl rfl 27 #[.int .i64 0, .slice none 0 0, .slice none 0 0, .slice none 0 0, .slice none 0 0, .int .i64 0, .string ⟨#[]⟩] GS.out size_node rfl ONN.out ?_))
        refine bodyPost_ret (results_cell1 rfl _ _ ⟨gs, 0, none⟩ (.agg #[.int .i64 3, .slice none 0 0, .slice none 0 0, .slice none 0 0, .slice none 0 0, .int .i64 (nx : Int), .string dt]) rfl (load_node (setRow_heap _ _ _ _ _ _ GS.out) rfl)) rfl ?_
        have bw : Below w.heap.size w w4 := S4.out.bl.trans (BQ.out.mono S4.out.bl.size)
        refine ⟨fun _ => ⟨⟨.slice none 0 0, .slice none 0 0, .slice none 0 0, .slice none 0 0⟩, by rw [NA.out]; rfl, ?_⟩, fun hn => absurd PB.out hn, bw.trans ((kept_setRow _ _ _).below bw.size (fun x hx => by have := S4.out.o; omega))⟩
        exact ((OW.out.below BQ.out).kept (kept_setRow _ _ _) (fun y hy e => by have := S4.out.o; omega)).mono (by have := S4.out.o; omega)
      · have NP : Hid (¬ Pg b) := Lib.hid (fun h => hp h.2)
        have NE := Lib.hid hp
        clear hp
        go_wp2_with fail
        refine EC.out.mono ?_
        rintro e w4 ⟨v4, rfl, q1, q2⟩
        have BQ := Lib.hid q2
        have GS : Hid (w4.heap[gs]? = some (.cells #[.int .i64 0, .slice none 0 0, .slice none 0 0, .slice none 0 0, .slice none 0 0, .int .i64 0, .string ⟨#[]⟩] 27 (0, 0))) := Lib.hid (by rw [q2.block gs (lt_of_heap S4.out.s)]; exact S4.out.s)
        have cvA := convT q1.bytes
        have cvB : (convert 33 9 (.slice (some ⟨bb, ob, none⟩) 512 cb)).run Try.prog w4 = .ok (.string (txt b)) w4 := convT (((S4.out.r.y).below q2))
        have ge : ((txt (encN (seN b))).toList == (txt b).toList) = false := by rw [ByteArray.toList_eq, ByteArray.toList_eq, beq_eq_false_iff_ne]; exact NE.out
        have ge2 : ((txt (encN (seN b))).toList != (txt b).toList) = true := by rw [bne, ge]; rfl
        clear q1 q2 p0 p1 p2 p3 p4 p5 p6 r4 m0 m1 m2 m3 m4 m5 m6
        go_wp2_with (first | (refine wpList_store_row rfl 27 (.tmp 2) (.tmp 153) rfl gs #[.int .i64 0, .slice none 0 0, .slice none 0 0, .slice none 0 0, .slice none 0 0, .int .i64 0, .string ⟨#[]⟩] rfl rfl 27 #[.int .i64 0, .slice none 0 0, .slice none 0 0, .slice none 0 0, .slice none 0 0, .int .i64 0, .string ⟨#[]⟩] GS.out size_node rfl ONZ.out ?_))
        refine bodyPost_ret (results_cell1 rfl _ _ ⟨gs, 0, none⟩ (.agg zN) rfl (load_node (setRow_heap _ _ _ _ _ _ GS.out) rfl)) rfl ?_
        have bw : Below w.heap.size w w4 := S4.out.bl.trans (BQ.out.mono S4.out.bl.size)
        exact ⟨fun hp => absurd hp NP.out, fun _ => rfl, bw.trans ((kept_setRow _ _ _).below bw.size (fun x hx => by have := S4.out.o; omega))⟩
end Pt
end Go.Proofs.Ytcdejeejhdpkaaa
end S5

section S6
namespace Go.Proofs.Ytcdejeejhdpkaaa
open Go.RowKit Go.Maps
namespace Pt
set_option maxHeartbeats 8000000 in
set_option maxRecDepth 100000 in
theorem rdec_leaf (bb ob cb : Nat) (b : List UInt8) (w : World) (hv : Bytes w (.slice (some ⟨bb, ob, none⟩) 512 cb) b) (hl : b.length = 512) (h1 : b.getD 1 0 = 1) :
    Calls Try.prog 18 #[.slice (some ⟨bb, ob, none⟩) 512 cb] w (RdP b w) := by
  have HL := Lib.hid hl
  have V := Lib.hid hv
  have hcb : 512 ≤ cb ∧ cb ≤ 9223372036854775807 := by
    obtain ⟨a2, c2, e, q1, q2, _⟩ := hv
    simp only [Value.slice.injEq] at e
    unfold maxLen at q2
    rw [e.2.2]
    omega
  obtain ⟨hcb1, hcb2⟩ := hcb
  have cel : ∀ k, k < 512 → w.cell? ⟨bb, ob + k, none⟩ = some (.int .u8 ((b.getD k 0).toNat : Int)) := fun k hk => by
    obtain ⟨a2, c2, e, _, _, _, h3⟩ := hv
    simp only [Value.slice.injEq] at e
    obtain ⟨b2, o2, e2, h4⟩ := h3 k (by omega)
    rw [← e.1] at e2
    simp only [Option.some.injEq, Addr.mk.injEq, and_true] at e2
    rw [e2.1, e2.2, h4]
    rfl
  have c1 : w.cell? ⟨bb, ob + 1, none⟩ = some (.int .u8 1) := by rw [cel 1 (by decide), h1]; rfl
  have bbl : bb < w.heap.size := block_lt_of_cell c1
  obtain ⟨x2, hx2⟩ : ∃ x, x = (b.getD 2 0).toNat := ⟨_, rfl⟩
  obtain ⟨x3, hx3⟩ : ∃ x, x = (b.getD 3 0).toNat := ⟨_, rfl⟩
  have bx2 : x2 < 256 := by rw [hx2]; exact UInt8.toNat_lt _
  have bx3 : x3 < 256 := by rw [hx3]; exact UInt8.toNat_lt _
  obtain ⟨cnt, hcnt⟩ : ∃ cnt, cnt = leN (sub b 2 2) := ⟨_, rfl⟩
  have hc6 : cnt < 65536 := by rw [hcnt]; exact leN2_lt _
  have hcx : cnt = x2 + x3 * 256 := by
    rw [hcnt, hx2, hx3]
    unfold sub
    rw [drop_one b 2 0 (by omega), drop_one b 3 0 (by omega)]
    simp [leN]; omega
  have CE : (x2 : Int) + (x3 : Int) * 256 = (cnt : Int) := by omega
  have CN := Lib.hid hcnt
  have WE : Hid (IntKind.i64.wrap (x2 : Int) = (x2 : Int) ∧ IntKind.i64.wrap (x3 : Int) = (x3 : Int) ∧ IntKind.i64.wrap ((x3 : Int) * 256) = (x3 : Int) * 256 ∧ IntKind.i64.wrap ((x2 : Int) + (x3 : Int) * 256) = (cnt : Int)) := Lib.hid ⟨wk _ (by omega), wk _ (by omega), wk _ (by omega), by rw [CE]; exact wk _ (by omega)⟩
  obtain ⟨gs, hgs⟩ : ∃ gs, gs = w.heap.size := ⟨_, rfl⟩
  obtain ⟨X1, hX1⟩ : ∃ X1, X1 = w.alloc (.cells #[.int .i64 0, .slice none 0 0, .slice none 0 0, .slice none 0 0, .slice none 0 0, .int .i64 0, .string ⟨#[]⟩] 27) := ⟨_, rfl⟩
  obtain ⟨gn, hgn⟩ : ∃ gn, gn = X1.heap.size := ⟨_, rfl⟩
  obtain ⟨X2z, hX2z⟩ : ∃ X2z, X2z = X1.alloc (.cells #[.int .i64 0, .slice none 0 0, .slice none 0 0, .slice none 0 0, .slice none 0 0, .int .i64 0, .string ⟨#[]⟩] 27) := ⟨_, rfl⟩
  obtain ⟨X2, hX2⟩ : ∃ X2, X2 = X2z.setRow gn #[.int .i64 1, .slice none 0 0, .slice none 0 0, .slice none 0 0, .slice none 0 0, .int .i64 0, .string ⟨#[]⟩] := ⟨_, rfl⟩
  have B1 : Below w.heap.size w X1 := by rw [hX1]; exact (Below.refl _ _).alloc (Nat.le_refl _) _
  have s1 : gn = gs + 1 := by rw [hgn, hX1, hgs]; simp
  have s2z : X2z.heap.size = gn + 1 := by rw [hX2z, hgn]; simp
  have G2z : X2z.heap[gn]? = some (.cells #[.int .i64 0, .slice none 0 0, .slice none 0 0, .slice none 0 0, .slice none 0 0, .int .i64 0, .string ⟨#[]⟩] 27 (0, 0)) := by rw [hX2z, hgn]; exact heap_alloc_new _ _
  have K2 : Kept (fun k => k = gn) X2z X2 := by rw [hX2]; exact kept_setRow _ _ _
  have G2 : X2.heap[gn]? = some (.cells #[.int .i64 1, .slice none 0 0, .slice none 0 0, .slice none 0 0, .slice none 0 0, .int .i64 0, .string ⟨#[]⟩] 27 (0, 0)) := by rw [hX2]; exact setRow_heap _ _ _ _ _ _ G2z
  have s2 : X2.heap.size = gn + 1 := by rw [hX2]; simp [World.setRow, s2z]
  have B2 : Below w.heap.size w X2 := by
    have h := B1.alloc B1.size (.cells #[.int .i64 0, .slice none 0 0, .slice none 0 0, .slice none 0 0, .slice none 0 0, .int .i64 0, .string ⟨#[]⟩] 27)
    rw [← hX2z] at h
    exact h.trans (K2.below h.size (fun x hx => by omega))
  have Z2 : X2.heap[gs]? = some (.cells #[.int .i64 0, .slice none 0 0, .slice none 0 0, .slice none 0 0, .slice none 0 0, .int .i64 0, .string ⟨#[]⟩] 27 (0, 0)) := by
    rw [K2.block gs (by omega) (by omega), hX2z, Below.heap_alloc _ _ _ (by omega), hX1, hgs]; exact heap_alloc_new _ _
  have W2 : Hid (Below w.heap.size w X2 ∧ X2.heap[gn]? = some (.cells #[.int .i64 1, .slice none 0 0, .slice none 0 0, .slice none 0 0, .slice none 0 0, .int .i64 0, .string ⟨#[]⟩] 27 (0, 0)) ∧ X2.heap[gs]? = some (.cells #[.int .i64 0, .slice none 0 0, .slice none 0 0, .slice none 0 0, .slice none 0 0, .int .i64 0, .string ⟨#[]⟩] 27 (0, 0)) ∧ w.heap.size ≤ gs ∧ gs < gn ∧ gn < X2.heap.size ∧ bb < w.heap.size) := Lib.hid ⟨B2, G2, Z2, by omega, by omega, by omega, bbl⟩
  have k1 : X1.cell? ⟨bb, ob + 1, none⟩ = some (.int .u8 1) := by rw [B1.cell (p := ⟨bb, ob + 1, none⟩) (block_lt_of_cell c1)]; exact c1
  have k2 : ∀ M, (X2.drewN M).cell? ⟨bb, ob + 2, none⟩ = some (.int .u8 (x2 : Int)) := fun M => by
    show X2.cell? _ = _
    rw [B2.cell (p := ⟨bb, ob + 2, none⟩) (block_lt_of_cell (cel 2 (by decide))), cel 2 (by decide), hx2]
  have k3 : ∀ M, (X2.drewN M).cell? ⟨bb, ob + 3, none⟩ = some (.int .u8 (x3 : Int)) := fun M => by
    show X2.cell? _ = _
    rw [B2.cell (p := ⟨bb, ob + 3, none⟩) (block_lt_of_cell (cel 3 (by decide))), cel 3 (by decide), hx3]
  have GZ2 := Lib.hid G2z
  have ON1 : Hid ((#[.int .i64 1, .slice none 0 0, .slice none 0 0, .slice none 0 0, .slice none 0 0, .int .i64 0, .string ⟨#[]⟩] : Array Value).all (·.oneCell') = true) := Lib.hid (by simp [Value.oneCell'])
  have ONZ : Hid ((#[.int .i64 0, .slice none 0 0, .slice none 0 0, .slice none 0 0, .slice none 0 0, .int .i64 0, .string ⟨#[]⟩] : Array Value).all (·.oneCell') = true) := Lib.hid (by simp [Value.oneCell'])
  have H1 := Lib.hid h1
  have hgs' := hgs.symm; have hX1' := hX1.symm; have hgn' := hgn.symm; have hX2' := hX2.symm; have hX2z' := hX2z.symm
  clear hgs hX1 hgn hX2 hX2z B1 B2 hv hl h1 bbl hcnt s1 s2 s2z G2z K2 G2 Z2 cel hx2 hx3 hcx
  go_enter Try.func18, Try.ntmps18
  go_wp2_with (first | (refine wpList_store_row rfl 27 (.tmp 4) (.tmp 26) rfl gn #[.int .i64 1, .slice none 0 0, .slice none 0 0, .slice none 0 0, .slice none 0 0, .int .i64 0, .string ⟨#[]⟩] rfl rfl 27 #[.int .i64 0, .slice none 0 0, .slice none 0 0, .slice none 0 0, .slice none 0 0, .int .i64 0, .string ⟨#[]⟩] GZ2.out size_node rfl ON1.out ?_; rw [hX2']))
  clear hgs' hX1' hgn' hX2' hX2z' k1 c1
  go_quiet (fail)
  simp only [WE.out.1, WE.out.2.1, WE.out.2.2.1, WE.out.2.2.2]
  obtain ⟨wd, hwd⟩ : ∃ W, W = X2.drewN nq := ⟨_, rfl⟩
  obtain ⟨gr, hgr⟩ : ∃ gr, gr = wd.heap.size := ⟨_, rfl⟩
  obtain ⟨X3, hX3⟩ : ∃ X3, X3 = wd.alloc (.cells #[.slice (some ⟨bb, ob, none⟩) 512 cb, .int .i64 8, .bool false] 54) := ⟨_, rfl⟩
  have BD : Below X2.heap.size X2 X3 := by rw [hX3, hwd]; exact (below_drawn X2 nq).alloc (Nat.le_refl _) _
  have SG : gr = X2.heap.size := by rw [hgr, hwd]; rfl
  have S0 : Hid (Dk w X3 gs gn gr #[.int .i64 1, .slice none 0 0, .slice none 0 0, .slice none 0 0, .slice none 0 0, .int .i64 0, .string ⟨#[]⟩] b bb ob cb (some (b.drop 8)) 8) := Lib.hid (by
    obtain ⟨q1, q2, q3, q4, q5, q6, q7⟩ := W2.out
    have hb : Below w.heap.size w X3 := q1.trans (BD.mono q1.size)
    exact ⟨by rw [BD.block gn q6]; exact q2, by rw [BD.block gs (by omega)]; exact q3, ⟨by rw [hX3, hgr]; exact heap_alloc_new _ _, V.out.below hb, by decide, fun x e => by cases e; rfl, by omega, Nat.lt_of_lt_of_le q7 hb.size, HL.out⟩, ⟨q4, q5, by omega, q7⟩, hb⟩)
  obtain ⟨n0, n1, n2, n3, n4, n5, n6⟩ := node_cells S0.out.n
  have hgr' := hgr.symm; have hX3' := hX3.symm
  rw [← hwd]
  clear hgr hX3 BD SG hwd k2 k3
  obtain ⟨R, hR⟩ : ∃ R, R = dL cnt [] [] (some (b.drop 8)) := ⟨_, rfl⟩
  have HR := Lib.hid hR
  clear hR
  go_wp2_with fail
  clear n0 n1 n2 n3 n4 n5 n6
  go_loopg [7, 8, 9, 10, 11] cnt (fun gg s7 _ _ _ _ wr => ∃ (k : Nat) (es : List Ent) (cs : List Int) (ve vc : Value) (st : Option (List UInt8)) (pos : Nat), s7 = .int .i64 k ∧ k ≤ cnt ∧ gg = cnt - k ∧ Hid (es.length = k ∧ cs.length = k ∧ R = dL (cnt - k) es cs st ∧ De w wr gs gn gr ve vc es cs b bb ob cb st pos))
  case atStart => exact ⟨0, [], [], _, _, some (b.drop 8), 8, rfl, Nat.zero_le _, rfl, Lib.hid ⟨rfl, rfl, HR.out, ⟨S0.out.n, S0.out.s, S0.out.r, World.ownsRow_nil _ _ _ _, World.ownsRow_nil _ _ _ _, S0.out.o, S0.out.bl⟩⟩⟩
  case round =>
    obtain ⟨k, es, cs, ve, vc, st, pos, rfl, hk, hg, S1⟩ := hrel
    obtain ⟨ae, ce, rfl, hea, heb⟩ := S1.out.2.2.2.e.ents.len
    obtain ⟨ac, cc, rfl, hca, hcb'⟩ := S1.out.2.2.2.i.ints.len
    have DD : Hid (De w wr gs gn gr (.slice ae k ce) (.slice ac k cc) es cs b bb ob cb st pos) := Lib.hid (by have q := S1.out.2.2.2; rw [S1.out.1, S1.out.2.1] at q; exact q)
    have rc : wr.cell? ⟨gr, 2, none⟩ = some (.bool st.isNone) := by rw [cell_of_row wr gr 2 _ _ _ DD.out.r.h]; rfl
    have GK := Lib.hid hg
    have S1 : Hid (es.length = k ∧ cs.length = k ∧ R = dL (cnt - k) es cs st) := Lib.hid ⟨S1.out.1, S1.out.2.1, S1.out.2.2.1⟩
    clear hca heb hcb' hea hg
    by_cases hlt : k < cnt
    · have hlt' : (k : Int) < (cnt : Int) := by omega
      cases st with
      | none =>
        have NP : Hid (¬ Pg b) := Lib.hid (fun hp => by
          obtain ⟨Z, z⟩ := leaf_pg hp H1.out
          rw [← CN.out, ← HR.out, S1.out.2.2, dL_none] at z
          cases z)
        simp only [Option.isNone_none] at rc
        skip
        go_wp2_with (first | (refine wpList_store_row rfl 27 (.tmp 2) (.tmp 138) rfl gs #[.int .i64 0, .slice none 0 0, .slice none 0 0, .slice none 0 0, .slice none 0 0, .int .i64 0, .string ⟨#[]⟩] rfl rfl 27 #[.int .i64 0, .slice none 0 0, .slice none 0 0, .slice none 0 0, .slice none 0 0, .int .i64 0, .string ⟨#[]⟩] DD.out.s size_node rfl ONZ.out ?_))
        refine bodyPost_ret (results_cell1 rfl _ _ ⟨gs, 0, none⟩ (.agg zN) rfl (load_node (setRow_heap _ _ _ _ _ _ DD.out.s) rfl)) rfl ?_
        exact ⟨fun hp => absurd hp NP.out, fun _ => rfl, DD.out.bl.trans ((kept_setRow _ _ _).below DD.out.bl.size (fun x hx => by have := DD.out.o; omega))⟩
      | some l =>
        simp only [Option.isNone_some] at rc
        obtain ⟨kl, hkl⟩ : ∃ x, x = tkN (some l) 1 := ⟨_, rfl⟩
        obtain ⟨t1, ht1⟩ : ∃ x, x = tkS (some l) 1 := ⟨_, rfl⟩
        obtain ⟨vl, hvl⟩ : ∃ x, x = tkN t1 1 := ⟨_, rfl⟩
        obtain ⟨t2, ht2⟩ : ∃ x, x = tkS t1 1 := ⟨_, rfl⟩
        obtain ⟨ky, hky⟩ : ∃ x, x = tkT t2 kl := ⟨_, rfl⟩
        obtain ⟨t3, ht3⟩ : ∃ x, x = tkS t2 kl := ⟨_, rfl⟩
        have b1 : kl < 256 := by rw [hkl]; exact tkN_lt _
        have b2 : vl < 256 := by rw [hvl]; exact tkN_lt _
        have C1 := Lib.hid (byte_any gr bb ob cb pos b (some l) wr DD.out.r)
        rw [← hkl, ← ht1] at C1
        have NM := Lib.hid (And.intro hkl (And.intro ht1 (And.intro hvl (And.intro ht2 (And.intro hky ht3)))))
        clear hkl ht1 hvl ht2 hky ht3
        go_wp2_with fail
        refine C1.out.mono ?_
        rintro e w1 ⟨p1, rfl, r1, j1⟩
        have D1 := Lib.hid (DD.out.read r1 j1)
        have C2 := Lib.hid (byte_any gr bb ob cb p1 b t1 w1 D1.out.r)
        rw [← NM.out.2.2.1, ← NM.out.2.2.2.1] at C2
        clear r1 j1 C1 rc
        go_wp2_with fail
        refine C2.out.mono ?_
        rintro e w2 ⟨p2, rfl, r2, j2⟩
        have D2 := Lib.hid (D1.out.read r2 j2)
        have C3 := Lib.hid (text_any gr bb ob cb kl p2 b t2 w2 D2.out.r (by omega))
        rw [← NM.out.2.2.2.2.1, ← NM.out.2.2.2.2.2] at C3
        clear r2 j2 C2 D1
        go_wp2_with fail
        refine C3.out.mono ?_
        rintro e w3 ⟨p3, rfl, r3, j3⟩
        have D3 := Lib.hid (D2.out.read r3 j3)
        clear r3 j3 C3 D2
        obtain ⟨ge, hge⟩ : ∃ ge, ge = w3.heap.size := ⟨_, rfl⟩
        obtain ⟨Y1, hY1⟩ : ∃ Y, Y = w3.alloc (.cells #[.string ⟨#[]⟩, .string ⟨#[]⟩] 29) := ⟨_, rfl⟩
        obtain ⟨Y2, hY2⟩ : ∃ Y, Y = Y1.setRow ge #[.string ky, .string ⟨#[]⟩] := ⟨_, rfl⟩
        have G1 : Hid (Y1.heap[ge]? = some (.cells #[.string ⟨#[]⟩, .string ⟨#[]⟩] 29 (0, 0))) := Lib.hid (by rw [hY1, hge]; exact heap_alloc_new _ _)
        have B12 : Below w3.heap.size w3 Y2 := by
          have q : Below w3.heap.size w3 Y1 := by rw [hY1]; exact (Below.refl _ _).alloc (Nat.le_refl _) _
          rw [hY2]
          exact q.trans ((kept_setRow _ _ _).below q.size (fun x hx => by omega))
        have D4 : Hid (De w Y2 gs gn gr (.slice ae k ce) (.slice ac k cc) es cs b bb ob cb t3 p3) := Lib.hid (D3.out.kept B12)
        have G2 : Hid (Y2.heap[ge]? = some (.cells #[.string ky, .string ⟨#[]⟩] 29 (0, 0))) := Lib.hid (by rw [hY2]; exact setRow_heap _ _ _ _ _ _ G1.out)
        have LG : Hid (gr < ge ∧ (∀ g, Value.ownBlock (.slice ae k ce) = some g → g < ge) ∧ (∀ g, Value.ownBlock (.slice ac k cc) = some g → g < ge) ∧ bb < ge) := Lib.hid ⟨by rw [hge]; exact D3.out.lt, fun g hg => by rw [hge]; exact (D3.out.e.lt g hg).2, fun g hg => by rw [hge]; exact (D3.out.i.lt g hg).2, by rw [hge]; exact D3.out.r.lt⟩
        have ONE : Hid ((#[.string ky, .string ⟨#[]⟩] : Array Value).all (·.oneCell') = true) := Lib.hid (by simp [Value.oneCell'])
        have hge' := hge.symm; have hY1' := hY1.symm; have hY2' := hY2.symm
        clear hge hY1 hY2 B12
        by_cases h255 : vl = 255
        · have e255 : ((vl : Int) == 255) = true := by rw [beq_iff_eq]; omega
          have V2 := Lib.hid h255
          clear h255
          obtain ⟨cv, hcv⟩ : ∃ x, x = tkN t3 4 := ⟨_, rfl⟩
          obtain ⟨t4, ht4⟩ : ∃ x, x = tkS t3 4 := ⟨_, rfl⟩
          have C4 := Lib.hid (number_any gr bb ob cb p3 b t3 Y2 D4.out.r)
          rw [← hcv, ← ht4] at C4
          have bcv : cv < 4294967296 := by rw [hcv]; exact tkN4_lt _
          have ER : Hid (deE (some l) = ((ky, ⟨#[]⟩), cv, t4)) := Lib.hid (by
            unfold deE
            rw [← NM.out.1, ← NM.out.2.1, ← NM.out.2.2.1, ← NM.out.2.2.2.1, ← NM.out.2.2.2.2.1, ← NM.out.2.2.2.2.2, if_pos V2.out, ← hcv, ← ht4])
          clear hcv ht4
          go_wp2_with (first | (refine wpList_store_row rfl 29 (.tmp 10) (.tmp 63) rfl ge #[.string ky, .string ⟨#[]⟩] rfl rfl 29 #[.string ⟨#[]⟩, .string ⟨#[]⟩] G1.out size_entry rfl ONE.out ?_; rw [hY2']))
          refine C4.out.mono ?_
          rintro e w4 ⟨p4, rfl, r4, j4⟩
          have D5 := Lib.hid (D4.out.read r4 j4)
          have G3 : Hid (w4.heap[ge]? = some (.cells #[.string ky, .string ⟨#[]⟩] 29 (0, 0))) := Lib.hid (by rw [j4.block ge (lt_of_heap G2.out) (by have := LG.out.1; omega)]; exact G2.out)
          clear r4 j4 C4 hge' hY1' hY2'
          have g0 : w4.cell? ⟨ge, 0, none⟩ = some (.string ky) := by rw [cell_of_row _ _ _ _ _ _ G3.out]; rfl
          have g1 : w4.cell? ⟨ge, 1, none⟩ = some (.string ⟨#[]⟩) := by rw [cell_of_row _ _ _ _ _ _ G3.out]; rfl
          obtain ⟨m0, m1, m2, m3, m4, m5, m6⟩ := node_cells D5.out.n
          have LB : Hid (gr + 1 ≤ w4.heap.size) := Lib.hid D5.out.lt
          have EL : Hid (es.length ≤ 1000000 ∧ cs.length ≤ 1000000) := Lib.hid (by rw [S1.out.1, S1.out.2.1]; omega)
          go_wp2_with (first | (at_builtin; refine app_ent rfl _ _ rfl rfl D5.out.e LB.out ky ⟨#[]⟩ rfl EL.out.1 ?_))
          intro v6 w6 H6
          have D6 := Lib.hid (D5.out.ent H6.out.1 H6.out.2)
          have FR6 : Hid (w6.heap[gn]? = _) := Lib.hid (((grown_kept H6.out.2).block gn (lt_of_heap D5.out.n) (fun e => by have := (D5.out.e.lt gn e.symm).1; have := D5.out.o; omega)).trans D5.out.n)
          have fr6 : w6.frozen? ⟨gn, 1, none⟩ = false := frozen_of_row _ _ _ _ _ FR6.out
          have fc6 : w6.cell? ⟨gn, 1, none⟩ = some (.slice ae k ce) := by rw [cell_of_row _ _ _ _ _ _ FR6.out]; rfl
          obtain ⟨a6, c6, hv6, _, _⟩ := D6.out.e.ents.len
          subst hv6
          obtain ⟨w7, hw7⟩ : ∃ Y, Y = w6.setCell ⟨gn, 1, none⟩ (.slice a6 (es ++ [((ky, ⟨#[]⟩) : Ent)]).length c6) := ⟨_, rfl⟩
          rw [← hw7] at D6
          obtain ⟨l6, hl6⟩ : ∃ x, x = (es ++ [((ky, ⟨#[]⟩) : Ent)]).length := ⟨_, rfl⟩
          rw [← hl6] at D6 hw7 ⊢
          have hw7' := hw7.symm
          have L6 := Lib.hid hl6
          clear g0 g1 m0 m1 m2 m3 m4 m5 m6 hw7 hl6 LB
          obtain ⟨m0, m1, m2, m3, m4, m5, m6⟩ := node_cells D6.out.n
          have LB2 : Hid (gr + 1 ≤ w7.heap.size) := Lib.hid D6.out.lt
          go_wp2_with (first | (at_builtin; refine app_int1 rfl _ _ rfl rfl D6.out.i LB2.out (cv : Int) rfl EL.out.2 ?_))
          intro v8 w8 H8
          have D8 := Lib.hid (D6.out.int H8.out.1 H8.out.2)
          have FR8 : Hid (w8.heap[gn]? = _) := Lib.hid (((grown_kept H8.out.2).block gn (lt_of_heap D6.out.n) (fun e => by have := (D6.out.i.lt gn e.symm).1; have := D6.out.o; omega)).trans D6.out.n)
          have fr8 : w8.frozen? ⟨gn, 2, none⟩ = false := frozen_of_row _ _ _ _ _ FR8.out
          have fc8 : w8.cell? ⟨gn, 2, none⟩ = some (.slice ac k cc) := by rw [cell_of_row _ _ _ _ _ _ FR8.out]; rfl
          obtain ⟨a8, c8, hv8, _, _⟩ := D8.out.i.ints.len
          subst hv8
          obtain ⟨l8, hl8⟩ : ∃ x, x = (cs ++ [(cv : Int)]).length := ⟨_, rfl⟩
          rw [← hl8] at D8 ⊢
          clear hl8
          clear m0 m1 m2 m3 m4 m5 m6 fr6 fc6 hw7'
          go_wp2_with fail
          go_roundg (cnt - (k + 1))
          case measure => have := GK.out; omega
          case rel =>
            refine ⟨k + 1, es ++ [((ky, ⟨#[]⟩) : Ent)], cs ++ [(cv : Int)], _, _, t4, p4, by go_num, by omega, rfl, Lib.hid ⟨by rw [List.length_append, S1.out.1]; rfl, by rw [List.length_append, S1.out.2.1]; rfl, ?_, D8.out⟩⟩
            have q := S1.out.2.2
            rw [show cnt - k = (cnt - (k + 1)) + 1 by omega, dL, ER.out] at q
            exact q
        · have e255 : ((vl : Int) == 255) = false := by rw [beq_eq_false_iff_ne]; omega
          have V2 := Lib.hid h255
          clear h255
          obtain ⟨va, hva⟩ : ∃ x, x = tkT t3 vl := ⟨_, rfl⟩
          obtain ⟨t4, ht4⟩ : ∃ x, x = tkS t3 vl := ⟨_, rfl⟩
          have C4 := Lib.hid (text_any gr bb ob cb vl p3 b t3 Y2 D4.out.r (by omega))
          rw [← hva, ← ht4] at C4
          have ER : Hid (deE (some l) = ((ky, va), 0, t4)) := Lib.hid (by
            unfold deE
            rw [← NM.out.1, ← NM.out.2.1, ← NM.out.2.2.1, ← NM.out.2.2.2.1, ← NM.out.2.2.2.2.1, ← NM.out.2.2.2.2.2, if_neg V2.out, ← hva, ← ht4])
          clear hva ht4
          go_wp2_with (first | (refine wpList_store_row rfl 29 (.tmp 10) (.tmp 63) rfl ge #[.string ky, .string ⟨#[]⟩] rfl rfl 29 #[.string ⟨#[]⟩, .string ⟨#[]⟩] G1.out size_entry rfl ONE.out ?_; rw [hY2']))
          refine C4.out.mono ?_
          rintro e w4z ⟨p4, rfl, r4, j4⟩
          have D5z := Lib.hid (D4.out.read r4 j4)
          have G3z : Hid (w4z.heap[ge]? = some (.cells #[.string ky, .string ⟨#[]⟩] 29 (0, 0))) := Lib.hid (by rw [j4.block ge (lt_of_heap G2.out) (by have := LG.out.1; omega)]; exact G2.out)
          clear r4 j4 C4 hge' hY1' hY2'
          have fz : w4z.frozen? ⟨ge, 1, none⟩ = false := frozen_of_row _ _ _ _ _ G3z.out
          have zc : w4z.cell? ⟨ge, 1, none⟩ = some (.string ⟨#[]⟩) := by rw [cell_of_row _ _ _ _ _ _ G3z.out]; rfl
          obtain ⟨w4, hw4⟩ : ∃ Y, w4z.setCell ⟨ge, 1, none⟩ (.string va) = Y := ⟨_, rfl⟩
          have D5 : Hid (De w w4 gs gn gr (.slice ae k ce) (.slice ac k cc) es cs b bb ob cb t4 p4) := Lib.hid (by rw [← hw4]; exact D5z.out.box (kept_set (F := fun y => y = ge) w4z ⟨ge, 1, none⟩ (.string va) rfl) LG.out.1 LG.out.2.2.2 LG.out.2.1 LG.out.2.2.1)
          have G3 : Hid (w4.heap[ge]? = some (.cells #[.string ky, .string va] 29 (0, 0))) := Lib.hid (by rw [← hw4, heap_setCell_same _ _ _ _ _ _ G3z.out]; rfl)
          have g0 : w4.cell? ⟨ge, 0, none⟩ = some (.string ky) := by rw [cell_of_row _ _ _ _ _ _ G3.out]; rfl
          have g1 : w4.cell? ⟨ge, 1, none⟩ = some (.string va) := by rw [cell_of_row _ _ _ _ _ _ G3.out]; rfl
          obtain ⟨m0, m1, m2, m3, m4, m5, m6⟩ := node_cells D5.out.n
          have LB : Hid (gr + 1 ≤ w4.heap.size) := Lib.hid D5.out.lt
          have EL : Hid (es.length ≤ 1000000 ∧ cs.length ≤ 1000000) := Lib.hid (by rw [S1.out.1, S1.out.2.1]; omega)
          go_wp2_with (first | (at_builtin; refine app_ent rfl _ _ rfl rfl D5.out.e LB.out ky va rfl EL.out.1 ?_))
          intro v6 w6 H6
          have D6 := Lib.hid (D5.out.ent H6.out.1 H6.out.2)
          have FR6 : Hid (w6.heap[gn]? = _) := Lib.hid (((grown_kept H6.out.2).block gn (lt_of_heap D5.out.n) (fun e => by have := (D5.out.e.lt gn e.symm).1; have := D5.out.o; omega)).trans D5.out.n)
          have fr6 : w6.frozen? ⟨gn, 1, none⟩ = false := frozen_of_row _ _ _ _ _ FR6.out
          have fc6 : w6.cell? ⟨gn, 1, none⟩ = some (.slice ae k ce) := by rw [cell_of_row _ _ _ _ _ _ FR6.out]; rfl
          obtain ⟨a6, c6, hv6, _, _⟩ := D6.out.e.ents.len
          subst hv6
          obtain ⟨w7, hw7⟩ : ∃ Y, Y = w6.setCell ⟨gn, 1, none⟩ (.slice a6 (es ++ [((ky, va) : Ent)]).length c6) := ⟨_, rfl⟩
          rw [← hw7] at D6
          obtain ⟨l6, hl6⟩ : ∃ x, x = (es ++ [((ky, va) : Ent)]).length := ⟨_, rfl⟩
          rw [← hl6] at D6 hw7 ⊢
          have hw7' := hw7.symm
          have L6 := Lib.hid hl6
          clear g0 g1 m0 m1 m2 m3 m4 m5 m6 hw7 hl6 LB
          obtain ⟨m0, m1, m2, m3, m4, m5, m6⟩ := node_cells D6.out.n
          have LB2 : Hid (gr + 1 ≤ w7.heap.size) := Lib.hid D6.out.lt
          go_wp2_with (first | (at_builtin; refine app_int1 rfl _ _ rfl rfl D6.out.i LB2.out (0 : Int) rfl EL.out.2 ?_))
          intro v8 w8 H8
          have D8 := Lib.hid (D6.out.int H8.out.1 H8.out.2)
          have FR8 : Hid (w8.heap[gn]? = _) := Lib.hid (((grown_kept H8.out.2).block gn (lt_of_heap D6.out.n) (fun e => by have := (D6.out.i.lt gn e.symm).1; have := D6.out.o; omega)).trans D6.out.n)
          have fr8 : w8.frozen? ⟨gn, 2, none⟩ = false := frozen_of_row _ _ _ _ _ FR8.out
          have fc8 : w8.cell? ⟨gn, 2, none⟩ = some (.slice ac k cc) := by rw [cell_of_row _ _ _ _ _ _ FR8.out]; rfl
          obtain ⟨a8, c8, hv8, _, _⟩ := D8.out.i.ints.len
          subst hv8
          obtain ⟨l8, hl8⟩ : ∃ x, x = (cs ++ [(0 : Int)]).length := ⟨_, rfl⟩
          rw [← hl8] at D8 ⊢
          clear hl8
          clear m0 m1 m2 m3 m4 m5 m6 fr6 fc6 hw7'
          go_wp2_with fail
          go_roundg (cnt - (k + 1))
          case measure => have := GK.out; omega
          case rel =>
            refine ⟨k + 1, es ++ [((ky, va) : Ent)], cs ++ [(0 : Int)], _, _, t4, p4, by go_num, by omega, rfl, Lib.hid ⟨by rw [List.length_append, S1.out.1]; rfl, by rw [List.length_append, S1.out.2.1]; rfl, ?_, D8.out⟩⟩
            have q := S1.out.2.2
            rw [show cnt - k = (cnt - (k + 1)) + 1 by omega, dL, ER.out] at q
            exact q
    · have hlt' : ¬ (k : Int) < (cnt : Int) := by omega
      have hkc : k = cnt := by omega
      have RE : Hid (R = (es, cs, st)) := Lib.hid (by have q := S1.out.2.2; rw [hkc, Nat.sub_self] at q; exact q)
      clear hkc
      cases st with
      | none =>
        have NP : Hid (¬ Pg b) := Lib.hid (fun hp => by
          obtain ⟨Z, z⟩ := leaf_pg hp H1.out
          rw [← CN.out, ← HR.out, RE.out] at z
          cases z)
        simp only [Option.isNone_none] at rc
        skip
        go_wp2_with (first | (refine wpList_store_row rfl 27 (.tmp 2) (.tmp 138) rfl gs #[.int .i64 0, .slice none 0 0, .slice none 0 0, .slice none 0 0, .slice none 0 0, .int .i64 0, .string ⟨#[]⟩] rfl rfl 27 #[.int .i64 0, .slice none 0 0, .slice none 0 0, .slice none 0 0, .slice none 0 0, .int .i64 0, .string ⟨#[]⟩] DD.out.s size_node rfl ONZ.out ?_))
        refine bodyPost_ret (results_cell1 rfl _ _ ⟨gs, 0, none⟩ (.agg zN) rfl (load_node (setRow_heap _ _ _ _ _ _ DD.out.s) rfl)) rfl ?_
        exact ⟨fun hp => absurd hp NP.out, fun _ => rfl, DD.out.bl.trans ((kept_setRow _ _ _).below DD.out.bl.size (fun x hx => by have := DD.out.o; omega))⟩
      | some l =>
        simp only [Option.isNone_some] at rc
        have SE : Hid (seN b = ⟨1, es, cs, [], [], 0, ⟨#[]⟩⟩) := Lib.hid (by
          unfold seN
          rw [if_pos H1.out]
          exact leaf_rd (l' := l) (by rw [← CN.out, ← HR.out, RE.out]))
        have NA : Hid ((seN b).arr ⟨.slice ae k ce, .slice ac k cc, .slice none 0 0, .slice none 0 0⟩ = #[.int .i64 1, .slice ae k ce, .slice ac k cc, .slice none 0 0, .slice none 0 0, .int .i64 0, .string ⟨#[]⟩]) := Lib.hid (by rw [SE.out]; rfl)
        have OW : Hid (Ow (gr + 1) wr ⟨.slice ae k ce, .slice ac k cc, .slice none 0 0, .slice none 0 0⟩ (seN b)) := Lib.hid (by rw [SE.out]; exact ⟨DD.out.e, DD.out.i, World.ownsRow_nil _ _ _ _, World.ownsRow_nil _ _ _ _, fun g _ h => by cases h⟩)
        skip
        obtain ⟨p0, p1, p2, p3, p4, p5, p6⟩ := node_cells DD.out.n
        have ONN : Hid ((#[.int .i64 1, .slice ae k ce, .slice ac k cc, .slice none 0 0, .slice none 0 0, .int .i64 0, .string ⟨#[]⟩] : Array Value).all (·.oneCell') = true) := Lib.hid (by simp [Value.oneCell'])
        cases hf : fitB (seN b) with
        | false =>
          have EC : Hid (Calls Try.prog 33 #[.agg #[.int .i64 1, .slice ae k ce, .slice ac k cc, .slice none 0 0, .slice none 0 0, .int .i64 0, .string ⟨#[]⟩]] wr fun e w' => e = .returned (.tuple #[.slice none 0 0, .int .i64 1]) ∧ Below wr.heap.size wr w') := Lib.hid (by rw [← NA.out]; exact renc_no (seN b) _ wr OW.out.ls (se_sz b) hf)
          have NP : Hid (¬ Pg b) := Lib.hid (fun hp => by rw [hp.1] at hf; cases hf)
          clear hf
          go_wp2_with (first | (go_at_call 33; refine EC.out.mono ?_; rintro e w4 ⟨rfl, q2⟩; have BQ := Lib.hid q2; have GS : Hid (w4.heap[gs]? = some (.cells #[.int .i64 0, .slice none 0 0, .slice none 0 0, .slice none 0 0, .slice none 0 0, .int .i64 0, .string ⟨#[]⟩] 27 (0, 0))) := Lib.hid (by rw [q2.block gs (lt_of_heap DD.out.s)]; exact DD.out.s); clear q2) | (refine wpList_store_row rfl 27 (.tmp 2) (.tmp 153) rfl gs #[.int .i64 0, .slice none 0 0, .slice none 0 0, .slice none 0 0, .slice none 0 0, .int .i64 0, .string ⟨#[]⟩] rfl rfl 27 #[.int .i64 0, .slice none 0 0, .slice none 0 0, .slice none 0 0, .slice none 0 0, .int .i64 0, .string ⟨#[]⟩] GS.out size_node rfl ONZ.out ?_))
          refine bodyPost_ret (results_cell1 rfl _ _ ⟨gs, 0, none⟩ (.agg zN) rfl (load_node (setRow_heap _ _ _ _ _ _ GS.out) rfl)) rfl ?_
          have bw : Below w.heap.size w w4 := DD.out.bl.trans (BQ.out.mono DD.out.bl.size)
          exact ⟨fun hp => absurd hp NP.out, fun _ => rfl, bw.trans ((kept_setRow _ _ _).below bw.size (fun x hx => by have := DD.out.o; omega))⟩
        | true =>
          have EC : Hid (Calls Try.prog 33 #[.agg #[.int .i64 1, .slice ae k ce, .slice ac k cc, .slice none 0 0, .slice none 0 0, .int .i64 0, .string ⟨#[]⟩]] wr fun e w' => ∃ v', e = .returned (.tuple #[v', .int .i64 0]) ∧ Own wr.heap.size w' v' (encN (seN b)) ∧ Below wr.heap.size wr w') := Lib.hid (by rw [← NA.out]; exact renc_yes (seN b) _ wr OW.out.ls (se_sz b) hf)
          have HF := Lib.hid hf
          clear hf
          by_cases hp : encN (seN b) = b
          · have PB : Hid (Pg b) := Lib.hid ⟨HF.out, hp⟩
            go_wp2_with fail
            refine EC.out.mono ?_
            rintro e w4 ⟨v4, rfl, q1, q2⟩
            have BQ := Lib.hid q2
            have GS : Hid (w4.heap[gs]? = some (.cells #[.int .i64 0, .slice none 0 0, .slice none 0 0, .slice none 0 0, .slice none 0 0, .int .i64 0, .string ⟨#[]⟩] 27 (0, 0))) := Lib.hid (by rw [q2.block gs (lt_of_heap DD.out.s)]; exact DD.out.s)
            have GN : Hid (w4.heap[gn]? = _) := Lib.hid ((q2.block gn (lt_of_heap DD.out.n)).trans DD.out.n)
            obtain ⟨y0, y1, y2, y3, y4, y5, y6⟩ := node_cells GN.out
            have cvA := convT q1.bytes
            rw [hp] at cvA
            have cvB : (convert 33 9 (.slice (some ⟨bb, ob, none⟩) 512 cb)).run Try.prog w4 = .ok (.string (txt b)) w4 := convT (((DD.out.r.y).below q2))
            clear q1 q2 p0 p1 p2 p3 p4 p5 p6 rc hp
            go_wp2_with (first | (refine wpList_store_row rfl 27 (.tmp 2) (.tmp 154) rfl gs #[.int .i64 1, .slice ae k ce, .slice ac k cc, .slice none 0 0, .slice none 0 0, .int .i64 0, .string ⟨#[]⟩] rfl rfl 27 #[.int .i64 0, .slice none 0 0, .slice none 0 0, .slice none 0 0, .slice none 0 0, .int .i64 0, .string ⟨#[]⟩] GS.out size_node rfl ONN.out ?_))
            refine bodyPost_ret (results_cell1 rfl _ _ ⟨gs, 0, none⟩ (.agg #[.int .i64 1, .slice ae k ce, .slice ac k cc, .slice none 0 0, .slice none 0 0, .int .i64 0, .string ⟨#[]⟩]) rfl (load_node (setRow_heap _ _ _ _ _ _ GS.out) rfl)) rfl ?_
            have bw : Below w.heap.size w w4 := DD.out.bl.trans (BQ.out.mono DD.out.bl.size)
            refine ⟨fun _ => ⟨⟨.slice ae k ce, .slice ac k cc, .slice none 0 0, .slice none 0 0⟩, by rw [NA.out]; rfl, ?_⟩, fun hn => absurd PB.out hn, bw.trans ((kept_setRow _ _ _).below bw.size (fun x hx => by have := DD.out.o; omega))⟩
            exact ((OW.out.below BQ.out).kept (kept_setRow _ _ _) (fun y hy e => by have := DD.out.o; omega)).mono (by have := DD.out.o; omega)
          · have NP : Hid (¬ Pg b) := Lib.hid (fun h => hp h.2)
            have NE := Lib.hid hp
            clear hp
            go_wp2_with fail
            refine EC.out.mono ?_
            rintro e w4 ⟨v4, rfl, q1, q2⟩
            have BQ := Lib.hid q2
            have GS : Hid (w4.heap[gs]? = some (.cells #[.int .i64 0, .slice none 0 0, .slice none 0 0, .slice none 0 0, .slice none 0 0, .int .i64 0, .string ⟨#[]⟩] 27 (0, 0))) := Lib.hid (by rw [q2.block gs (lt_of_heap DD.out.s)]; exact DD.out.s)
            have cvA := convT q1.bytes
            have cvB : (convert 33 9 (.slice (some ⟨bb, ob, none⟩) 512 cb)).run Try.prog w4 = .ok (.string (txt b)) w4 := convT (((DD.out.r.y).below q2))
            have ge : ((txt (encN (seN b))).toList == (txt b).toList) = false := by rw [ByteArray.toList_eq, ByteArray.toList_eq, beq_eq_false_iff_ne]; exact NE.out
            have ge2 : ((txt (encN (seN b))).toList != (txt b).toList) = true := by rw [bne, ge]; rfl
            clear q1 q2 p0 p1 p2 p3 p4 p5 p6 rc
            go_wp2_with (first | (refine wpList_store_row rfl 27 (.tmp 2) (.tmp 153) rfl gs #[.int .i64 0, .slice none 0 0, .slice none 0 0, .slice none 0 0, .slice none 0 0, .int .i64 0, .string ⟨#[]⟩] rfl rfl 27 #[.int .i64 0, .slice none 0 0, .slice none 0 0, .slice none 0 0, .slice none 0 0, .int .i64 0, .string ⟨#[]⟩] GS.out size_node rfl ONZ.out ?_))
            refine bodyPost_ret (results_cell1 rfl _ _ ⟨gs, 0, none⟩ (.agg zN) rfl (load_node (setRow_heap _ _ _ _ _ _ GS.out) rfl)) rfl ?_
            have bw : Below w.heap.size w w4 := DD.out.bl.trans (BQ.out.mono DD.out.bl.size)
            exact ⟨fun hp => absurd hp NP.out, fun _ => rfl, bw.trans ((kept_setRow _ _ _).below bw.size (fun x hx => by have := DD.out.o; omega))⟩
end Pt
end Go.Proofs.Ytcdejeejhdpkaaa
end S6

section S7
namespace Go.Proofs.Ytcdejeejhdpkaaa
open Go.RowKit Go.Maps
namespace Pt
set_option maxHeartbeats 8000000 in
set_option maxRecDepth 100000 in
theorem rdec_inner (bb ob cb : Nat) (b : List UInt8) (w : World) (hv : Bytes w (.slice (some ⟨bb, ob, none⟩) 512 cb) b) (hl : b.length = 512) (h1 : b.getD 1 0 = 2) :
    Calls Try.prog 18 #[.slice (some ⟨bb, ob, none⟩) 512 cb] w (RdP b w) := by
  have HL := Lib.hid hl
  have V := Lib.hid hv
  have hcb : 512 ≤ cb ∧ cb ≤ 9223372036854775807 := by
    obtain ⟨a2, c2, e, q1, q2, _⟩ := hv
    simp only [Value.slice.injEq] at e
    unfold maxLen at q2
    rw [e.2.2]
    omega
  obtain ⟨hcb1, hcb2⟩ := hcb
  have cel : ∀ k, k < 512 → w.cell? ⟨bb, ob + k, none⟩ = some (.int .u8 ((b.getD k 0).toNat : Int)) := fun k hk => by
    obtain ⟨a2, c2, e, _, _, _, h3⟩ := hv
    simp only [Value.slice.injEq] at e
    obtain ⟨b2, o2, e2, h4⟩ := h3 k (by omega)
    rw [← e.1] at e2
    simp only [Option.some.injEq, Addr.mk.injEq, and_true] at e2
    rw [e2.1, e2.2, h4]
    rfl
  have c1 : w.cell? ⟨bb, ob + 1, none⟩ = some (.int .u8 2) := by rw [cel 1 (by decide), h1]; rfl
  have bbl : bb < w.heap.size := block_lt_of_cell c1
  obtain ⟨x2, hx2⟩ : ∃ x, x = (b.getD 2 0).toNat := ⟨_, rfl⟩
  obtain ⟨x3, hx3⟩ : ∃ x, x = (b.getD 3 0).toNat := ⟨_, rfl⟩
  have bx2 : x2 < 256 := by rw [hx2]; exact UInt8.toNat_lt _
  have bx3 : x3 < 256 := by rw [hx3]; exact UInt8.toNat_lt _
  obtain ⟨cnt, hcnt⟩ : ∃ cnt, cnt = leN (sub b 2 2) := ⟨_, rfl⟩
  have hc6 : cnt < 65536 := by rw [hcnt]; exact leN2_lt _
  have hcx : cnt = x2 + x3 * 256 := by
    rw [hcnt, hx2, hx3]
    unfold sub
    rw [drop_one b 2 0 (by omega), drop_one b 3 0 (by omega)]
    simp [leN]; omega
  have CE : (x2 : Int) + (x3 : Int) * 256 = (cnt : Int) := by omega
  have CN := Lib.hid hcnt
  have WE : Hid (IntKind.i64.wrap (x2 : Int) = (x2 : Int) ∧ IntKind.i64.wrap (x3 : Int) = (x3 : Int) ∧ IntKind.i64.wrap ((x3 : Int) * 256) = (x3 : Int) * 256 ∧ IntKind.i64.wrap ((x2 : Int) + (x3 : Int) * 256) = (cnt : Int)) := Lib.hid ⟨wk _ (by omega), wk _ (by omega), wk _ (by omega), by rw [CE]; exact wk _ (by omega)⟩
  obtain ⟨gs, hgs⟩ : ∃ gs, gs = w.heap.size := ⟨_, rfl⟩
  obtain ⟨X1, hX1⟩ : ∃ X1, X1 = w.alloc (.cells #[.int .i64 0, .slice none 0 0, .slice none 0 0, .slice none 0 0, .slice none 0 0, .int .i64 0, .string ⟨#[]⟩] 27) := ⟨_, rfl⟩
  obtain ⟨gn, hgn⟩ : ∃ gn, gn = X1.heap.size := ⟨_, rfl⟩
  obtain ⟨X2z, hX2z⟩ : ∃ X2z, X2z = X1.alloc (.cells #[.int .i64 0, .slice none 0 0, .slice none 0 0, .slice none 0 0, .slice none 0 0, .int .i64 0, .string ⟨#[]⟩] 27) := ⟨_, rfl⟩
  obtain ⟨X2, hX2⟩ : ∃ X2, X2 = X2z.setRow gn #[.int .i64 2, .slice none 0 0, .slice none 0 0, .slice none 0 0, .slice none 0 0, .int .i64 0, .string ⟨#[]⟩] := ⟨_, rfl⟩
  have B1 : Below w.heap.size w X1 := by rw [hX1]; exact (Below.refl _ _).alloc (Nat.le_refl _) _
  have s1 : gn = gs + 1 := by rw [hgn, hX1, hgs]; simp
  have s2z : X2z.heap.size = gn + 1 := by rw [hX2z, hgn]; simp
  have G2z : X2z.heap[gn]? = some (.cells #[.int .i64 0, .slice none 0 0, .slice none 0 0, .slice none 0 0, .slice none 0 0, .int .i64 0, .string ⟨#[]⟩] 27 (0, 0)) := by rw [hX2z, hgn]; exact heap_alloc_new _ _
  have K2 : Kept (fun k => k = gn) X2z X2 := by rw [hX2]; exact kept_setRow _ _ _
  have G2 : X2.heap[gn]? = some (.cells #[.int .i64 2, .slice none 0 0, .slice none 0 0, .slice none 0 0, .slice none 0 0, .int .i64 0, .string ⟨#[]⟩] 27 (0, 0)) := by rw [hX2]; exact setRow_heap _ _ _ _ _ _ G2z
  have s2 : X2.heap.size = gn + 1 := by rw [hX2]; simp [World.setRow, s2z]
  have B2 : Below w.heap.size w X2 := by
    have h := B1.alloc B1.size (.cells #[.int .i64 0, .slice none 0 0, .slice none 0 0, .slice none 0 0, .slice none 0 0, .int .i64 0, .string ⟨#[]⟩] 27)
    rw [← hX2z] at h
    exact h.trans (K2.below h.size (fun x hx => by omega))
  have Z2 : X2.heap[gs]? = some (.cells #[.int .i64 0, .slice none 0 0, .slice none 0 0, .slice none 0 0, .slice none 0 0, .int .i64 0, .string ⟨#[]⟩] 27 (0, 0)) := by
    rw [K2.block gs (by omega) (by omega), hX2z, Below.heap_alloc _ _ _ (by omega), hX1, hgs]; exact heap_alloc_new _ _
  have W2 : Hid (Below w.heap.size w X2 ∧ X2.heap[gn]? = some (.cells #[.int .i64 2, .slice none 0 0, .slice none 0 0, .slice none 0 0, .slice none 0 0, .int .i64 0, .string ⟨#[]⟩] 27 (0, 0)) ∧ X2.heap[gs]? = some (.cells #[.int .i64 0, .slice none 0 0, .slice none 0 0, .slice none 0 0, .slice none 0 0, .int .i64 0, .string ⟨#[]⟩] 27 (0, 0)) ∧ w.heap.size ≤ gs ∧ gs < gn ∧ gn < X2.heap.size ∧ bb < w.heap.size) := Lib.hid ⟨B2, G2, Z2, by omega, by omega, by omega, bbl⟩
  have k1 : X1.cell? ⟨bb, ob + 1, none⟩ = some (.int .u8 2) := by rw [B1.cell (p := ⟨bb, ob + 1, none⟩) (block_lt_of_cell c1)]; exact c1
  have k2 : ∀ M, (X2.drewN M).cell? ⟨bb, ob + 2, none⟩ = some (.int .u8 (x2 : Int)) := fun M => by
    show X2.cell? _ = _
    rw [B2.cell (p := ⟨bb, ob + 2, none⟩) (block_lt_of_cell (cel 2 (by decide))), cel 2 (by decide), hx2]
  have k3 : ∀ M, (X2.drewN M).cell? ⟨bb, ob + 3, none⟩ = some (.int .u8 (x3 : Int)) := fun M => by
    show X2.cell? _ = _
    rw [B2.cell (p := ⟨bb, ob + 3, none⟩) (block_lt_of_cell (cel 3 (by decide))), cel 3 (by decide), hx3]
  have GZ2 := Lib.hid G2z
  have ON1 : Hid ((#[.int .i64 2, .slice none 0 0, .slice none 0 0, .slice none 0 0, .slice none 0 0, .int .i64 0, .string ⟨#[]⟩] : Array Value).all (·.oneCell') = true) := Lib.hid (by simp [Value.oneCell'])
  have ONZ : Hid ((#[.int .i64 0, .slice none 0 0, .slice none 0 0, .slice none 0 0, .slice none 0 0, .int .i64 0, .string ⟨#[]⟩] : Array Value).all (·.oneCell') = true) := Lib.hid (by simp [Value.oneCell'])
  have H1 := Lib.hid h1
  have hgs' := hgs.symm; have hX1' := hX1.symm; have hgn' := hgn.symm; have hX2' := hX2.symm; have hX2z' := hX2z.symm
  clear hgs hX1 hgn hX2 hX2z B1 B2 hv hl h1 bbl hcnt s1 s2 s2z G2z K2 G2 Z2 cel hx2 hx3 hcx
  go_enter Try.func18, Try.ntmps18
  go_wp2_with (first | (refine wpList_store_row rfl 27 (.tmp 4) (.tmp 26) rfl gn #[.int .i64 2, .slice none 0 0, .slice none 0 0, .slice none 0 0, .slice none 0 0, .int .i64 0, .string ⟨#[]⟩] rfl rfl 27 #[.int .i64 0, .slice none 0 0, .slice none 0 0, .slice none 0 0, .slice none 0 0, .int .i64 0, .string ⟨#[]⟩] GZ2.out size_node rfl ON1.out ?_; rw [hX2']))
  clear hgs' hX1' hgn' hX2' hX2z' k1 c1
  go_quiet (fail)
  simp only [WE.out.1, WE.out.2.1, WE.out.2.2.1, WE.out.2.2.2]
  obtain ⟨wd, hwd⟩ : ∃ W, W = X2.drewN nq := ⟨_, rfl⟩
  obtain ⟨gr, hgr⟩ : ∃ gr, gr = wd.heap.size := ⟨_, rfl⟩
  obtain ⟨X3, hX3⟩ : ∃ X3, X3 = wd.alloc (.cells #[.slice (some ⟨bb, ob, none⟩) 512 cb, .int .i64 8, .bool false] 54) := ⟨_, rfl⟩
  have BD : Below X2.heap.size X2 X3 := by rw [hX3, hwd]; exact (below_drawn X2 nq).alloc (Nat.le_refl _) _
  have SG : gr = X2.heap.size := by rw [hgr, hwd]; rfl
  have S0 : Hid (Dk w X3 gs gn gr #[.int .i64 2, .slice none 0 0, .slice none 0 0, .slice none 0 0, .slice none 0 0, .int .i64 0, .string ⟨#[]⟩] b bb ob cb (some (b.drop 8)) 8) := Lib.hid (by
    obtain ⟨q1, q2, q3, q4, q5, q6, q7⟩ := W2.out
    have hb : Below w.heap.size w X3 := q1.trans (BD.mono q1.size)
    exact ⟨by rw [BD.block gn q6]; exact q2, by rw [BD.block gs (by omega)]; exact q3, ⟨by rw [hX3, hgr]; exact heap_alloc_new _ _, V.out.below hb, by decide, fun x e => by cases e; rfl, by omega, Nat.lt_of_lt_of_le q7 hb.size, HL.out⟩, ⟨q4, q5, by omega, q7⟩, hb⟩)
  obtain ⟨n0, n1, n2, n3, n4, n5, n6⟩ := node_cells S0.out.n
  have hgr' := hgr.symm; have hX3' := hX3.symm
  rw [← hwd]
  clear hgr hX3 BD SG hwd k2 k3
  have E0 : Hid (tkS (some (b.drop 8)) 4 = some ((b.drop 8).drop 4) ∧ tkN (some (b.drop 8)) 4 = leN ((b.drop 8).take 4)) := Lib.hid (by
    have q : 4 ≤ (b.drop 8).length := by rw [List.length_drop, HL.out]; omega
    simp only [tkS, tkN, if_pos q]; exact ⟨trivial, trivial⟩)
  obtain ⟨nx, hnx⟩ : ∃ x, x = leN ((b.drop 8).take 4) := ⟨_, rfl⟩
  have bnx : nx < 4294967296 := by rw [hnx]; exact leN4_lt _
  have SI : Hid (Di w X3 gs gn gr (.slice none 0 0) (.slice none 0 0) [] [] b bb ob cb (some (b.drop 8)) 8) := Lib.hid ⟨S0.out.n, S0.out.s, S0.out.r, World.ownsRow_nil _ _ _ _, World.ownsRow_nil _ _ _ _, S0.out.o, S0.out.bl⟩
  have C1 := Lib.hid (number_any gr bb ob cb 8 b (some (b.drop 8)) X3 S0.out.r)
  rw [E0.out.1, E0.out.2, ← hnx] at C1
  obtain ⟨R, hR⟩ : ∃ R, R = dI cnt [] [(nx : Int)] (some ((b.drop 8).drop 4)) := ⟨_, rfl⟩
  have HR := Lib.hid hR
  have HN := Lib.hid hnx
  clear hnx hR
  go_wp2_with fail
  refine C1.out.mono ?_
  rintro e w1 ⟨q1, rfl, t1, k1⟩
  have S1 := Lib.hid (SI.out.read t1 k1)
  clear t1 k1 n0 n1 n2 n3 n4 n5 n6 C1
  obtain ⟨m0, m1, m2, m3, m4, m5, m6⟩ := node_cells S1.out.n
  have LB : Hid (gr + 1 ≤ w1.heap.size) := Lib.hid S1.out.lt
  go_wp2_with (first | (at_builtin; refine app_int1 rfl _ _ rfl rfl S1.out.h LB.out (nx : Int) rfl (by decide) ?_))
  intro v2 w2 H2
  have S2 := Lib.hid (S1.out.kid H2.out.1 H2.out.2)
  have FR2 : Hid (w2.heap[gn]? = _) := Lib.hid (((grown_kept H2.out.2).block gn (lt_of_heap S1.out.n) (fun e => by cases e)).trans S1.out.n)
  have fr2 : w2.frozen? ⟨gn, 4, none⟩ = false := frozen_of_row _ _ _ _ _ FR2.out
  have fc2 : w2.cell? ⟨gn, 4, none⟩ = some (.slice none 0 0) := by rw [cell_of_row _ _ _ _ _ _ FR2.out]; rfl
  obtain ⟨a2, c2, hv2, _, _⟩ := S2.out.h.ints.len
  subst hv2
  obtain ⟨l2, hl2⟩ : ∃ x, x = [(nx : Int)].length := ⟨_, rfl⟩
  rw [← hl2] at S2 ⊢
  clear hl2 m0 m1 m2 m3 m4 m5 m6
  go_wp2_with fail
  clear fr2 fc2
  go_loopg [12, 13, 14, 15] cnt (fun gg _ s13 _ _ wr => ∃ (k : Nat) (ks : List ByteArray) (hs : List Int) (vk vh : Value) (st : Option (List UInt8)) (pos : Nat), s13 = .int .i64 k ∧ k ≤ cnt ∧ gg = cnt - k ∧ Hid (ks.length = k ∧ hs.length = k + 1 ∧ R = dI (cnt - k) ks hs st ∧ Di w wr gs gn gr vk vh ks hs b bb ob cb st pos))
  case atStart => exact ⟨0, [], [(nx : Int)], _, _, some ((b.drop 8).drop 4), q1, rfl, Nat.zero_le _, rfl, Lib.hid ⟨rfl, rfl, HR.out, S2.out⟩⟩
  case round =>
    obtain ⟨k, ks, hs, vk, vh, st, pos, rfl, hk, hg, S1⟩ := hrel
    obtain ⟨ak, ck, rfl, hka, hkb⟩ := S1.out.2.2.2.k.strs.len
    obtain ⟨ah, ch, rfl, hha, hhb⟩ := S1.out.2.2.2.h.ints.len
    obtain ⟨nh, hnh⟩ : ∃ x, x = hs.length := ⟨_, rfl⟩
    have DD : Hid (Di w wr gs gn gr (.slice ak k ck) (.slice ah nh ch) ks hs b bb ob cb st pos) := Lib.hid (by have q := S1.out.2.2.2; rw [S1.out.1, ← hnh] at q; exact q)
    have rc : wr.cell? ⟨gr, 2, none⟩ = some (.bool st.isNone) := by rw [cell_of_row wr gr 2 _ _ _ DD.out.r.h]; rfl
    have GK := Lib.hid hg
    have S1 : Hid (ks.length = k ∧ hs.length = k + 1 ∧ R = dI (cnt - k) ks hs st) := Lib.hid ⟨S1.out.1, S1.out.2.1, S1.out.2.2.1⟩
    clear hka hkb hha hhb hg hnh
    by_cases hlt : k < cnt
    · have hlt' : (k : Int) < (cnt : Int) := by omega
      cases st with
      | none =>
        have NP : Hid (¬ Pg b) := Lib.hid (fun hp => by
          obtain ⟨Z, z⟩ := inn_pg hp H1.out
          rw [← CN.out, ← HN.out, ← HR.out, S1.out.2.2, dI_none] at z
          cases z)
        simp only [Option.isNone_none] at rc
        skip
        go_wp2_with (first | (refine wpList_store_row rfl 27 (.tmp 2) (.tmp 138) rfl gs #[.int .i64 0, .slice none 0 0, .slice none 0 0, .slice none 0 0, .slice none 0 0, .int .i64 0, .string ⟨#[]⟩] rfl rfl 27 #[.int .i64 0, .slice none 0 0, .slice none 0 0, .slice none 0 0, .slice none 0 0, .int .i64 0, .string ⟨#[]⟩] DD.out.s size_node rfl ONZ.out ?_))
        refine bodyPost_ret (results_cell1 rfl _ _ ⟨gs, 0, none⟩ (.agg zN) rfl (load_node (setRow_heap _ _ _ _ _ _ DD.out.s) rfl)) rfl ?_
        exact ⟨fun hp => absurd hp NP.out, fun _ => rfl, DD.out.bl.trans ((kept_setRow _ _ _).below DD.out.bl.size (fun x hx => by have := DD.out.o; omega))⟩
      | some l =>
        simp only [Option.isNone_some] at rc
        obtain ⟨kl, hkl⟩ : ∃ x, x = tkN (some l) 1 := ⟨_, rfl⟩
        obtain ⟨t1, ht1⟩ : ∃ x, x = tkS (some l) 1 := ⟨_, rfl⟩
        obtain ⟨ky, hky⟩ : ∃ x, x = tkT t1 kl := ⟨_, rfl⟩
        obtain ⟨t2, ht2⟩ : ∃ x, x = tkS t1 kl := ⟨_, rfl⟩
        obtain ⟨cv, hcv⟩ : ∃ x, x = tkN t2 4 := ⟨_, rfl⟩
        obtain ⟨t3, ht3⟩ : ∃ x, x = tkS t2 4 := ⟨_, rfl⟩
        have b1 : kl < 256 := by rw [hkl]; exact tkN_lt _
        have bcv : cv < 4294967296 := by rw [hcv]; exact tkN4_lt _
        have C1 := Lib.hid (byte_any gr bb ob cb pos b (some l) wr DD.out.r)
        rw [← hkl, ← ht1] at C1
        have ER : Hid (deK (some l) = (ky, cv, t3)) := Lib.hid (by
          unfold deK
          rw [← hkl, ← ht1, ← hky, ← ht2, ← hcv, ← ht3])
        have NM := Lib.hid (And.intro hky (And.intro ht2 (And.intro hcv ht3)))
        clear hkl ht1 hky ht2 hcv ht3
        go_wp2_with fail
        refine C1.out.mono ?_
        rintro e w1 ⟨p1, rfl, r1, j1⟩
        have D1 := Lib.hid (DD.out.read r1 j1)
        have C2 := Lib.hid (text_any gr bb ob cb kl p1 b t1 w1 D1.out.r (by omega))
        rw [← NM.out.1, ← NM.out.2.1] at C2
        clear r1 j1 C1 rc
        go_wp2_with fail
        refine C2.out.mono ?_
        rintro e w2 ⟨p2, rfl, r2, j2⟩
        have D2 := Lib.hid (D1.out.read r2 j2)
        have C3 := Lib.hid (number_any gr bb ob cb p2 b t2 w2 D2.out.r)
        rw [← NM.out.2.2.1, ← NM.out.2.2.2] at C3
        clear r2 j2 C2 D1
        go_wp2_with fail
        refine C3.out.mono ?_
        rintro e w3 ⟨p3, rfl, r3, j3⟩
        have D3 := Lib.hid (D2.out.read r3 j3)
        clear r3 j3 C3 D2
        obtain ⟨m0, m1, m2, m3, m4, m5, m6⟩ := node_cells D3.out.n
        have LB : Hid (gr + 1 ≤ w3.heap.size) := Lib.hid D3.out.lt
        have EL : Hid ((ks.length + 1) * 16 ≤ 140737488355328 ∧ hs.length ≤ 1000000) := Lib.hid (by rw [S1.out.1, S1.out.2.1]; omega)
        go_wp2_with (first | (at_builtin; refine app_txt rfl _ _ rfl rfl D3.out.k LB.out ky rfl EL.out.1 ?_))
        intro v6 w6 h6a h6b
        have H6 := Lib.hid (And.intro h6a h6b)
        clear h6a h6b
        have D6 := Lib.hid (D3.out.key H6.out.1 H6.out.2)
        have FR6 : Hid (w6.heap[gn]? = _) := Lib.hid (((grown_kept H6.out.2).block gn (lt_of_heap D3.out.n) (fun e => by have := (D3.out.k.lt gn e.symm).1; have := D3.out.o; omega)).trans D3.out.n)
        have fr6 : w6.frozen? ⟨gn, 3, none⟩ = false := frozen_of_row _ _ _ _ _ FR6.out
        have fc6 : w6.cell? ⟨gn, 3, none⟩ = some (.slice ak k ck) := by rw [cell_of_row _ _ _ _ _ _ FR6.out]; rfl
        obtain ⟨a6, c6, hv6, _, _⟩ := D6.out.k.strs.len
        subst hv6
        obtain ⟨l6, hl6⟩ : ∃ x, x = (ks ++ [ky]).length := ⟨_, rfl⟩
        obtain ⟨w7, hw7⟩ : ∃ Y, Y = w6.setCell ⟨gn, 3, none⟩ (.slice a6 l6 c6) := ⟨_, rfl⟩
        rw [← hl6] at D6 ⊢
        rw [← hw7] at D6
        have hw7' := hw7.symm
        clear m0 m1 m2 m3 m4 m5 m6 hw7 hl6 LB
        obtain ⟨m0, m1, m2, m3, m4, m5, m6⟩ := node_cells D6.out.n
        have LB2 : Hid (gr + 1 ≤ w7.heap.size) := Lib.hid D6.out.lt
        go_wp2_with (first | (at_builtin; refine app_int1 rfl _ _ rfl rfl D6.out.h LB2.out (cv : Int) rfl EL.out.2 ?_))
        intro v8 w8 H8
        have D8 := Lib.hid (D6.out.kid H8.out.1 H8.out.2)
        have FR8 : Hid (w8.heap[gn]? = _) := Lib.hid (((grown_kept H8.out.2).block gn (lt_of_heap D6.out.n) (fun e => by have := (D6.out.h.lt gn e.symm).1; have := D6.out.o; omega)).trans D6.out.n)
        have fr8 : w8.frozen? ⟨gn, 4, none⟩ = false := frozen_of_row _ _ _ _ _ FR8.out
        have fc8 : w8.cell? ⟨gn, 4, none⟩ = some (.slice ah nh ch) := by rw [cell_of_row _ _ _ _ _ _ FR8.out]; rfl
        obtain ⟨a8, c8, hv8, _, _⟩ := D8.out.h.ints.len
        subst hv8
        obtain ⟨l8, hl8⟩ : ∃ x, x = (hs ++ [(cv : Int)]).length := ⟨_, rfl⟩
        rw [← hl8] at D8 ⊢
        clear hl8 m0 m1 m2 m3 m4 m5 m6 fr6 fc6 hw7'
        go_wp2_with fail
        go_roundg (cnt - (k + 1))
        case measure => have := GK.out; omega
        case rel =>
          refine ⟨k + 1, ks ++ [ky], hs ++ [(cv : Int)], _, _, t3, p3, by go_num, by omega, rfl, Lib.hid ⟨by rw [List.length_append, S1.out.1]; rfl, by rw [List.length_append, S1.out.2.1]; rfl, ?_, D8.out⟩⟩
          have q := S1.out.2.2
          rw [show cnt - k = (cnt - (k + 1)) + 1 by omega, dI, ER.out] at q
          exact q
    · have hlt' : ¬ (k : Int) < (cnt : Int) := by omega
      have hkc : k = cnt := by omega
      have RE : Hid (R = (ks, hs, st)) := Lib.hid (by have q := S1.out.2.2; rw [hkc, Nat.sub_self] at q; exact q)
      clear hkc
      cases st with
      | none =>
        have NP : Hid (¬ Pg b) := Lib.hid (fun hp => by
          obtain ⟨Z, z⟩ := inn_pg hp H1.out
          rw [← CN.out, ← HN.out, ← HR.out, RE.out] at z
          cases z)
        simp only [Option.isNone_none] at rc
        skip
        go_wp2_with (first | (refine wpList_store_row rfl 27 (.tmp 2) (.tmp 138) rfl gs #[.int .i64 0, .slice none 0 0, .slice none 0 0, .slice none 0 0, .slice none 0 0, .int .i64 0, .string ⟨#[]⟩] rfl rfl 27 #[.int .i64 0, .slice none 0 0, .slice none 0 0, .slice none 0 0, .slice none 0 0, .int .i64 0, .string ⟨#[]⟩] DD.out.s size_node rfl ONZ.out ?_))
        refine bodyPost_ret (results_cell1 rfl _ _ ⟨gs, 0, none⟩ (.agg zN) rfl (load_node (setRow_heap _ _ _ _ _ _ DD.out.s) rfl)) rfl ?_
        exact ⟨fun hp => absurd hp NP.out, fun _ => rfl, DD.out.bl.trans ((kept_setRow _ _ _).below DD.out.bl.size (fun x hx => by have := DD.out.o; omega))⟩
      | some l =>
        simp only [Option.isNone_some] at rc
        have SE : Hid (seN b = ⟨2, [], [], ks, hs, 0, ⟨#[]⟩⟩) := Lib.hid (by
          unfold seN
          rw [if_neg (by rw [H1.out]; decide), if_pos H1.out]
          exact inn_rd (l' := l) (by rw [← CN.out, ← HN.out, ← HR.out, RE.out]))
        have NA : Hid ((seN b).arr ⟨.slice none 0 0, .slice none 0 0, .slice ak k ck, .slice ah nh ch⟩ = #[.int .i64 2, .slice none 0 0, .slice none 0 0, .slice ak k ck, .slice ah nh ch, .int .i64 0, .string ⟨#[]⟩]) := Lib.hid (by rw [SE.out]; rfl)
        have OW : Hid (Ow (gr + 1) wr ⟨.slice none 0 0, .slice none 0 0, .slice ak k ck, .slice ah nh ch⟩ (seN b)) := Lib.hid (by rw [SE.out]; exact ⟨World.ownsRow_nil _ _ _ _, World.ownsRow_nil _ _ _ _, DD.out.k, DD.out.h, fun g h => by cases h⟩)
        skip
        obtain ⟨p0, p1, p2, p3, p4, p5, p6⟩ := node_cells DD.out.n
        have ONN : Hid ((#[.int .i64 2, .slice none 0 0, .slice none 0 0, .slice ak k ck, .slice ah nh ch, .int .i64 0, .string ⟨#[]⟩] : Array Value).all (·.oneCell') = true) := Lib.hid (by simp [Value.oneCell'])
        cases hf : fitB (seN b) with
        | false =>
          have EC : Hid (Calls Try.prog 33 #[.agg #[.int .i64 2, .slice none 0 0, .slice none 0 0, .slice ak k ck, .slice ah nh ch, .int .i64 0, .string ⟨#[]⟩]] wr fun e w' => e = .returned (.tuple #[.slice none 0 0, .int .i64 1]) ∧ Below wr.heap.size wr w') := Lib.hid (by rw [← NA.out]; exact renc_no (seN b) _ wr OW.out.ls (se_sz b) hf)
          have NP : Hid (¬ Pg b) := Lib.hid (fun hp => by rw [hp.1] at hf; cases hf)
          clear hf
          go_wp2_with (first | (go_at_call 33; refine EC.out.mono ?_; rintro e w4 ⟨rfl, q2⟩; have BQ := Lib.hid q2; have GS : Hid (w4.heap[gs]? = some (.cells #[.int .i64 0, .slice none 0 0, .slice none 0 0, .slice none 0 0, .slice none 0 0, .int .i64 0, .string ⟨#[]⟩] 27 (0, 0))) := Lib.hid (by rw [q2.block gs (lt_of_heap DD.out.s)]; exact DD.out.s); clear q2) | (refine wpList_store_row rfl 27 (.tmp 2) (.tmp 153) rfl gs #[.int .i64 0, .slice none 0 0, .slice none 0 0, .slice none 0 0, .slice none 0 0, .int .i64 0, .string ⟨#[]⟩] rfl rfl 27 #[.int .i64 0, .slice none 0 0, .slice none 0 0, .slice none 0 0, .slice none 0 0, .int .i64 0, .string ⟨#[]⟩] GS.out size_node rfl ONZ.out ?_))
          refine bodyPost_ret (results_cell1 rfl _ _ ⟨gs, 0, none⟩ (.agg zN) rfl (load_node (setRow_heap _ _ _ _ _ _ GS.out) rfl)) rfl ?_
          have bw : Below w.heap.size w w4 := DD.out.bl.trans (BQ.out.mono DD.out.bl.size)
          exact ⟨fun hp => absurd hp NP.out, fun _ => rfl, bw.trans ((kept_setRow _ _ _).below bw.size (fun x hx => by have := DD.out.o; omega))⟩
        | true =>
          have EC : Hid (Calls Try.prog 33 #[.agg #[.int .i64 2, .slice none 0 0, .slice none 0 0, .slice ak k ck, .slice ah nh ch, .int .i64 0, .string ⟨#[]⟩]] wr fun e w' => ∃ v', e = .returned (.tuple #[v', .int .i64 0]) ∧ Own wr.heap.size w' v' (encN (seN b)) ∧ Below wr.heap.size wr w') := Lib.hid (by rw [← NA.out]; exact renc_yes (seN b) _ wr OW.out.ls (se_sz b) hf)
          have HF := Lib.hid hf
          clear hf
          by_cases hp : encN (seN b) = b
          · have PB : Hid (Pg b) := Lib.hid ⟨HF.out, hp⟩
            go_wp2_with fail
            refine EC.out.mono ?_
            rintro e w4 ⟨v4, rfl, q1, q2⟩
            have BQ := Lib.hid q2
            have GS : Hid (w4.heap[gs]? = some (.cells #[.int .i64 0, .slice none 0 0, .slice none 0 0, .slice none 0 0, .slice none 0 0, .int .i64 0, .string ⟨#[]⟩] 27 (0, 0))) := Lib.hid (by rw [q2.block gs (lt_of_heap DD.out.s)]; exact DD.out.s)
            have GN : Hid (w4.heap[gn]? = _) := Lib.hid ((q2.block gn (lt_of_heap DD.out.n)).trans DD.out.n)
            obtain ⟨y0, y1, y2, y3, y4, y5, y6⟩ := node_cells GN.out
            have cvA := convT q1.bytes
            rw [hp] at cvA
            have cvB : (convert 33 9 (.slice (some ⟨bb, ob, none⟩) 512 cb)).run Try.prog w4 = .ok (.string (txt b)) w4 := convT (((DD.out.r.y).below q2))
            clear q1 q2 p0 p1 p2 p3 p4 p5 p6 rc hp
            go_wp2_with (first | (refine wpList_store_row rfl 27 (.tmp 2) (.tmp 154) rfl gs #[.int .i64 2, .slice none 0 0, .slice none 0 0, .slice ak k ck, .slice ah nh ch, .int .i64 0, .string ⟨#[]⟩] rfl rfl 27 #[.int .i64 0, .slice none 0 0, .slice none 0 0, .slice none 0 0, .slice none 0 0, .int .i64 0, .string ⟨#[]⟩] GS.out size_node rfl ONN.out ?_))
            refine bodyPost_ret (results_cell1 rfl _ _ ⟨gs, 0, none⟩ (.agg #[.int .i64 2, .slice none 0 0, .slice none 0 0, .slice ak k ck, .slice ah nh ch, .int .i64 0, .string ⟨#[]⟩]) rfl (load_node (setRow_heap _ _ _ _ _ _ GS.out) rfl)) rfl ?_
            have bw : Below w.heap.size w w4 := DD.out.bl.trans (BQ.out.mono DD.out.bl.size)
            refine ⟨fun _ => ⟨⟨.slice none 0 0, .slice none 0 0, .slice ak k ck, .slice ah nh ch⟩, by rw [NA.out]; rfl, ?_⟩, fun hn => absurd PB.out hn, bw.trans ((kept_setRow _ _ _).below bw.size (fun x hx => by have := DD.out.o; omega))⟩
            exact ((OW.out.below BQ.out).kept (kept_setRow _ _ _) (fun y hy e => by have := DD.out.o; omega)).mono (by have := DD.out.o; omega)
          · have NP : Hid (¬ Pg b) := Lib.hid (fun h => hp h.2)
            have NE := Lib.hid hp
            clear hp
            go_wp2_with fail
            refine EC.out.mono ?_
            rintro e w4 ⟨v4, rfl, q1, q2⟩
            have BQ := Lib.hid q2
            have GS : Hid (w4.heap[gs]? = some (.cells #[.int .i64 0, .slice none 0 0, .slice none 0 0, .slice none 0 0, .slice none 0 0, .int .i64 0, .string ⟨#[]⟩] 27 (0, 0))) := Lib.hid (by rw [q2.block gs (lt_of_heap DD.out.s)]; exact DD.out.s)
            have cvA := convT q1.bytes
            have cvB : (convert 33 9 (.slice (some ⟨bb, ob, none⟩) 512 cb)).run Try.prog w4 = .ok (.string (txt b)) w4 := convT (((DD.out.r.y).below q2))
            have ge : ((txt (encN (seN b))).toList == (txt b).toList) = false := by rw [ByteArray.toList_eq, ByteArray.toList_eq, beq_eq_false_iff_ne]; exact NE.out
            have ge2 : ((txt (encN (seN b))).toList != (txt b).toList) = true := by rw [bne, ge]; rfl
            clear q1 q2 p0 p1 p2 p3 p4 p5 p6 rc
            go_wp2_with (first | (refine wpList_store_row rfl 27 (.tmp 2) (.tmp 153) rfl gs #[.int .i64 0, .slice none 0 0, .slice none 0 0, .slice none 0 0, .slice none 0 0, .int .i64 0, .string ⟨#[]⟩] rfl rfl 27 #[.int .i64 0, .slice none 0 0, .slice none 0 0, .slice none 0 0, .slice none 0 0, .int .i64 0, .string ⟨#[]⟩] GS.out size_node rfl ONZ.out ?_))
            refine bodyPost_ret (results_cell1 rfl _ _ ⟨gs, 0, none⟩ (.agg zN) rfl (load_node (setRow_heap _ _ _ _ _ _ GS.out) rfl)) rfl ?_
            have bw : Below w.heap.size w w4 := DD.out.bl.trans (BQ.out.mono DD.out.bl.size)
            exact ⟨fun hp => absurd hp NP.out, fun _ => rfl, bw.trans ((kept_setRow _ _ _).below bw.size (fun x hx => by have := DD.out.o; omega))⟩
end Pt
end Go.Proofs.Ytcdejeejhdpkaaa
end S7

section S8
namespace Go.Proofs.Ytcdejeejhdpkaaa
open Go.RowKit Go.Maps
namespace Pt
set_option maxRecDepth 100000 in
set_option maxHeartbeats 1000000 in
theorem rdec_short (a : Option Addr) (n cap : Nat) (w : World) (hn : n ≠ 512) (_hm : n ≤ 9223372036854775807) :
    Calls Try.prog 18 #[.slice a n cap] w fun e w' => e = .returned (.tuple #[.agg zN, .int .i64 61]) ∧ Below w.heap.size w w' := by
  have g0 : ((n : Int) != 512) = true := by rw [bne_iff_ne]; omega
  obtain ⟨gs, hgs⟩ : ∃ gs, gs = w.heap.size := ⟨_, rfl⟩
  obtain ⟨X1, hX1⟩ : ∃ X1, X1 = w.alloc (.cells #[.int .i64 0, .slice none 0 0, .slice none 0 0, .slice none 0 0, .slice none 0 0, .int .i64 0, .string ⟨#[]⟩] 27) := ⟨_, rfl⟩
  have B1 : Hid (Below w.heap.size w X1 ∧ X1.heap[gs]? = some (.cells #[.int .i64 0, .slice none 0 0, .slice none 0 0, .slice none 0 0, .slice none 0 0, .int .i64 0, .string ⟨#[]⟩] 27 (0, 0)) ∧ w.heap.size ≤ gs) := Lib.hid ⟨by rw [hX1]; exact (Below.refl _ _).alloc (Nat.le_refl _) _, by rw [hX1, hgs]; exact heap_alloc_new _ _, by omega⟩
  have ON : Hid ((#[.int .i64 0, .slice none 0 0, .slice none 0 0, .slice none 0 0, .slice none 0 0, .int .i64 0, .string ⟨#[]⟩] : Array Value).all (·.oneCell') = true) := Lib.hid (by simp [Value.oneCell'])
  have hgs' := hgs.symm; have hX1' := hX1.symm
  clear hgs hX1 hn
  go_enter Try.func18, Try.ntmps18
  go_wp2_with (refine wpList_store_row rfl 27 (.tmp 2) (.tmp 21) rfl gs #[.int .i64 0, .slice none 0 0, .slice none 0 0, .slice none 0 0, .slice none 0 0, .int .i64 0, .string ⟨#[]⟩] rfl rfl 27 #[.int .i64 0, .slice none 0 0, .slice none 0 0, .slice none 0 0, .slice none 0 0, .int .i64 0, .string ⟨#[]⟩] B1.out.2.1 size_node rfl ON.out ?_)
  refine bodyPost_ret (results_cell1 rfl _ _ ⟨gs, 0, none⟩ (.agg zN) rfl (load_node (setRow_heap _ _ _ _ _ _ B1.out.2.1) rfl)) rfl ?_
  exact ⟨rfl, B1.out.1.trans ((kept_setRow _ _ _).below B1.out.1.size (fun x hx => by have := B1.out.2.2; omega))⟩
theorem rdec_512 (bb ob cb : Nat) (b : List UInt8) (w : World) (hv : Bytes w (.slice (some ⟨bb, ob, none⟩) 512 cb) b) (hl : b.length = 512) :
    Calls Try.prog 18 #[.slice (some ⟨bb, ob, none⟩) 512 cb] w (RdP b w) := by
  by_cases h1 : b.getD 1 0 = 1
  · exact rdec_leaf bb ob cb b w hv hl h1
  · by_cases h2 : b.getD 1 0 = 2
    · exact rdec_inner bb ob cb b w hv hl h2
    · by_cases h3 : b.getD 1 0 = 3
      · exact rdec_chain bb ob cb b w hv hl h3
      · exact rdec_other bb ob cb b w hv hl _ rfl (fun e => h1 (UInt8.toNat.inj e)) (fun e => h2 (UInt8.toNat.inj e)) (fun e => h3 (UInt8.toNat.inj e))
def zD : Nd := ⟨0, [], [], [], [], 0, ⟨#[]⟩⟩
def zV : Nv := ⟨.slice none 0 0, .slice none 0 0, .slice none 0 0, .slice none 0 0⟩
theorem z_ls (w : World) : Ls w zV zD := (show Ow 0 w zV zD from ⟨World.ownsRow_nil _ _ _ _, World.ownsRow_nil _ _ _ _, World.ownsRow_nil _ _ _ _, World.ownsRow_nil _ _ _ _, fun g h => by cases h⟩).ls
/-- What Decode tells of bytes: a node and a code. -/
noncomputable def dN (b : List UInt8) : Nd := open Classical in if b.length = 512 ∧ Pg b then seN b else zD
noncomputable def dC (b : List UInt8) : Int := open Classical in if b.length = 512 then if Pg b then 0 else 2 else 61
def DecP (m : Nd) (k : Int) (w : World) (e : Ending) (w' : World) : Prop := ∃ v, e = .returned (.tuple #[.agg (m.arr v), .int .i64 k]) ∧ Ls w' v m ∧ Below w.heap.size w w'
theorem len_of {w : World} {v : Value} {b : List UInt8} (hv : Bytes w v b) : ∃ a c, v = .slice a b.length c ∧ b.length ≤ 9223372036854775807 ∧ (b.length = 512 → ∃ bb ob, a = some ⟨bb, ob, none⟩) := by
  obtain ⟨a, c, e, h1, h2, _, h3⟩ := hv
  unfold maxLen at h2
  exact ⟨a, c, e, by omega, fun h => by obtain ⟨x, y, z, _⟩ := h3 0 (by omega); exact ⟨x, y, z⟩⟩
theorem pdec (b : List UInt8) (v : Value) (w : World) (hv : Bytes w v b) : Calls Try.prog 12 #[v] w (DecP (dN b) (dC b) w) := by
  obtain ⟨a, c, rfl, hm, ha⟩ := len_of hv
  by_cases h : b.length = 512
  · obtain ⟨bb, ob, rfl⟩ := ha h
    rw [h] at hv ⊢
    by_cases hp : Pg b
    · refine (decode_pg bb ob c b w hv h hp).mono ?_
      rintro e w' ⟨v, rfl, ho, hb⟩
      unfold DecP dN dC
      rw [if_pos ⟨h, hp⟩, if_pos h, if_pos hp]
      exact ⟨v, rfl, ho.ls, hb⟩
    · refine (decode_none bb ob c b w hv h hp).mono ?_
      rintro e w' ⟨rfl, hb⟩
      unfold DecP dN dC
      rw [if_neg (fun q => hp q.2), if_pos h, if_neg hp]
      exact ⟨zV, rfl, z_ls _, hb⟩
  · refine (decode_short a _ c w h hm).mono ?_
    rintro e w' ⟨rfl, hb⟩
    unfold DecP dN dC
    rw [if_neg (fun q => h q.1), if_neg h]
    exact ⟨zV, rfl, z_ls _, hb⟩
theorem rdec (b : List UInt8) (v : Value) (w : World) (hv : Bytes w v b) : Calls Try.prog 18 #[v] w (DecP (dN b) (dC b) w) := by
  obtain ⟨a, c, rfl, hm, ha⟩ := len_of hv
  by_cases h : b.length = 512
  · obtain ⟨bb, ob, rfl⟩ := ha h
    rw [h] at hv ⊢
    refine (rdec_512 bb ob c b w hv h).mono ?_
    rintro e w' ⟨h1, h2, hb⟩
    unfold DecP dN dC
    by_cases hp : Pg b
    · obtain ⟨v, rfl, ho⟩ := h1 hp
      rw [if_pos ⟨h, hp⟩, if_pos h, if_pos hp]
      exact ⟨v, rfl, ho.ls, hb⟩
    · rw [if_neg (fun q => hp q.2), if_pos h, if_neg hp]
      exact ⟨zV, h2 hp, z_ls _, hb⟩
  · refine (rdec_short a _ c w h hm).mono ?_
    rintro e w' ⟨rfl, hb⟩
    unfold DecP dN dC
    rw [if_neg (fun q => h q.1), if_neg h]
    exact ⟨zV, rfl, z_ls _, hb⟩
end Pt
end Go.Proofs.Ytcdejeejhdpkaaa
end S8

section S9
namespace Go.Proofs.Ytcdejeejhdpkaaa
open Go.RowKit Go.Maps
namespace Pt
theorem app3 {ops : Array Oper} {rest : List Oper} {o : Oper} {a : Act} {Q : Exit → Act → World → Prop} (hgd : o.guard = none) (s x : Operand)
    (ho : o.op = .call { callee := .builtin .append, args := #[s, x], argTypes := #[33, 33] })
    {B : Nat} {w0 : World} {v : Value} {l : List UInt8} (hs : a.eval s = v) (hown : Own B w0 v l) (hB : B ≤ w0.heap.size)
    (hx : a.eval x = .slice (some ⟨w0.heap.size, 0, none⟩) 3 3) (hl : l.length ≤ 140737488351232)
    (h : ∀ v' w', Own B w' v' (l ++ [165, 166, 167]) → w0.grownBy w' v.ownBlock → wpList Try.prog ops Q rest (a.put o.dst v') w') :
    wpList Try.prog ops Q (o :: rest) a (w0.alloc (.cells #[.int .u8 165, .int .u8 166, .int .u8 167] 5)) := by
  have hu : Own 0 (w0.alloc (.cells #[.int .u8 165, .int .u8 166, .int .u8 167] 5)) (.slice (some ⟨w0.heap.size, 0, none⟩) 3 3) [165, 166, 167] := own_of (heap_alloc_new _ _) (Nat.zero_le _) rfl (by decide)
  refine app_bytes hgd s x ho hs (World.ownsRow.alloc hown _) (by simp; omega) hx hu.bytes (by simp; omega) ?_
  intro v' w' h1 h2 _
  exact h v' w' h1 (grown_alloc h2)
theorem app3g {ops : Array Oper} {rest : List Oper} {o : Oper} {a : Act} {Q : Exit → Act → World → Prop} (s x : Operand)
    (ho : o.op = .call { callee := .builtin .append, args := #[s, x], argTypes := #[33, 33] }) (hw : Region.wanted o (yielded ops a.tmps) = true)
    {B : Nat} {w0 : World} {v : Value} {l : List UInt8} (hs : a.eval s = v) (hown : Own B w0 v l) (hB : B ≤ w0.heap.size)
    (hx : a.eval x = .slice (some ⟨w0.heap.size, 0, none⟩) 3 3) (hl : l.length ≤ 140737488351232)
    (h : ∀ v' w', Own B w' v' (l ++ [165, 166, 167]) → w0.grownBy w' v.ownBlock → wpList Try.prog ops Q rest (a.put o.dst v') w') :
    wpList Try.prog ops Q (o :: rest) a (w0.alloc (.cells #[.int .u8 165, .int .u8 166, .int .u8 167] 5)) := by
  have h2 := app3 (ops := ops) (rest := rest) (o := { o with guard := none }) (a := a) (Q := Q) rfl s x ho hs hown hB hx hl h
  rw [wpList, if_pos (show Region.wanted _ _ = true from rfl)] at h2
  rw [wpList, if_pos hw]
  exact h2
theorem own_any {B : Nat} {w : World} {v : Value} {l : List UInt8} (h : Own B w v l) (hl : 0 < l.length) : ∃ g cap, v = .slice (some ⟨g, 0, none⟩) l.length cap ∧ l.length ≤ cap ∧ cap ≤ 9223372036854775807 := by
  obtain ⟨_, ⟨_, hn⟩ | ⟨g', cap', cur, hv, hB, hg', hnc, hm, _⟩⟩ := h
  · omega
  · unfold maxLen at hm
    exact ⟨g', cap', hv, hnc, hm⟩
theorem ls_shape {w : World} {v : Nv} {n : Nd} (h : Ls w v n) : ∃ a0 n0 c0 a1 n1 c1 a2 n2 c2 a3 n3 c3, v = ⟨.slice a0 n0 c0, .slice a1 n1 c1, .slice a2 n2 c2, .slice a3 n3 c3⟩ := by
  obtain ⟨a0, c0, e0, _, _⟩ := h.e.len
  obtain ⟨a1, c1, e1, _, _⟩ := h.c.len
  obtain ⟨a2, c2, e2, _, _⟩ := h.k.len
  obtain ⟨a3, c3, e3, _, _⟩ := h.h.len
  obtain ⟨ve, vc, vk, vh⟩ := v
  simp only at e0 e1 e2 e3
  exact ⟨a0, _, c0, a1, _, c1, a2, _, c2, a3, _, c3, by rw [e0, e1, e2, e3]⟩
set_option maxHeartbeats 8000000 in
set_option maxRecDepth 100000 in
theorem reads_walk (v0 : Value) (b : List UInt8) (w : World) (hv : Bytes w v0 b) (hbl : b.length ≤ 140737488351232) :
    Calls Try.prog 5 #[v0] w fun e w' => e = .returned (.bool true) ∧ Below w.heap.size w w' := by
  have V := Lib.hid hv
  have HBL := Lib.hid hbl
  obtain ⟨a0, c0, rfl, hm0, _⟩ := len_of hv
  obtain ⟨nb, hnb⟩ : ∃ x, x = b.length := ⟨_, rfl⟩
  rw [← hnb] at V hm0 ⊢
  have NB := Lib.hid hnb
  obtain ⟨m, hm⟩ : ∃ m, m = dN b := ⟨_, rfl⟩
  obtain ⟨cd, hcd⟩ : ∃ x, x = dC b := ⟨_, rfl⟩
  obtain ⟨kd, ents, chs, keys, kids, nx, dt⟩ := m
  have PD : Hid (∀ v W, Bytes W v b → Calls Try.prog 12 #[v] W (DecP ⟨kd, ents, chs, keys, kids, nx, dt⟩ cd W)) := Lib.hid (fun v W h => by rw [hm, hcd]; exact pdec b v W h)
  have RD : Hid (∀ v W, Bytes W v b → Calls Try.prog 18 #[v] W (DecP ⟨kd, ents, chs, keys, kids, nx, dt⟩ cd W)) := Lib.hid (fun v W h => by rw [hm, hcd]; exact rdec b v W h)
  have gk : (cd == cd) = true := beq_self_eq_true _
  clear hv hnb hm hcd hbl
  go_enter Try.func5, Try.ntmps5
  go_wp2_with fail
  refine (fixed_any w).mono ?_
  rintro _ w1 ⟨rfl, b1⟩
  have B1 := Lib.hid b1
  clear b1
  go_wp2_with fail
  refine (ownW_any _ b w1 (V.out.below B1.out) (by have := HBL.out; omega)).mono ?_
  rintro _ w2 ⟨v2, rfl, o2, b2⟩
  have O2 : Hid (Own w1.heap.size w2 v2 b ∧ Below w1.heap.size w1 w2 ∧ Below w.heap.size w w2) := Lib.hid ⟨o2, b2, B1.out.trans (b2.mono B1.out.size)⟩
  clear o2 b2
  go_wp2_with (at_builtin; refine app3 rfl _ _ rfl rfl O2.out.1 O2.out.2.1.size rfl HBL.out ?_)
  intro v3 w3 o3 g3
  have B3 : Hid (Below w.heap.size w w3) := Lib.hid (O2.out.2.2.trans ((grown_kept g3).below O2.out.2.2.size (fun x hx => by have := (O2.out.1.lt x hx.symm).1; have := B1.out.size; omega)))
  have O3 := Lib.hid o3
  obtain ⟨q3, c3, rfl, hc3, hm3⟩ := own_any o3 (by simp)
  obtain ⟨n3, hn3⟩ : ∃ x, x = (b ++ [165, 166, 167]).length := ⟨_, rfl⟩
  have hb3 : nb ≤ n3 := by rw [hn3, List.length_append, ← NB.out]; simp
  rw [← hn3] at O3 hc3 ⊢
  have N3 := Lib.hid hn3
  have BT : Hid (Bytes w3 (.slice (some ⟨q3, 0, none⟩) nb c3) b) := Lib.hid (by
    have q := O3.out.bytes
    rw [N3.out] at q
    have r := q.take nb (by rw [← N3.out]; exact hb3)
    have e : (b ++ [165, 166, 167]).take nb = b := by rw [NB.out, List.take_left' rfl]
    rw [e] at r
    exact r)
  have h1 : (nb : Int) ≤ (n3 : Int) := by omega
  have h2 : (nb : Int) ≤ (c3 : Int) := by omega
  clear o3 g3 hn3
  go_wp2_with fail
  refine (PD.out _ _ BT.out).mono ?_
  rintro _ w4 ⟨u4, rfl, l4, b4⟩
  obtain ⟨x0, y0, z0, x1, y1, z1, x2, y2, z2, x3, y3, z3, rfl⟩ := ls_shape l4
  have L4 := Lib.hid (And.intro l4 b4)
  clear l4 b4
  obtain ⟨g5, hg5⟩ : ∃ x, x = w4.heap.size := ⟨_, rfl⟩
  obtain ⟨Z1, hZ1⟩ : ∃ Z, Z = w4.alloc (.cells #[.int .i64 0, .slice none 0 0, .slice none 0 0, .slice none 0 0, .slice none 0 0, .int .i64 0, .string ⟨#[]⟩] 27) := ⟨_, rfl⟩
  obtain ⟨Z2, hZ2⟩ : ∃ Z, Z = Z1.setRow g5 #[.int .i64 kd, .slice x0 y0 z0, .slice x1 y1 z1, .slice x2 y2 z2, .slice x3 y3 z3, .int .i64 nx, .string dt] := ⟨_, rfl⟩
  have G5 : Hid (Z1.heap[g5]? = some (.cells #[.int .i64 0, .slice none 0 0, .slice none 0 0, .slice none 0 0, .slice none 0 0, .int .i64 0, .string ⟨#[]⟩] 27 (0, 0))) := Lib.hid (by rw [hZ1, hg5]; exact heap_alloc_new _ _)
  have K5 : Hid (Below w4.heap.size w4 Z2 ∧ Z2.heap[g5]? = some (.cells #[.int .i64 kd, .slice x0 y0 z0, .slice x1 y1 z1, .slice x2 y2 z2, .slice x3 y3 z3, .int .i64 nx, .string dt] 27 (0, 0))) := Lib.hid (by
    have q : Below w4.heap.size w4 Z1 := by rw [hZ1]; exact (Below.refl _ _).alloc (Nat.le_refl _) _
    rw [hZ2]
    exact ⟨q.trans ((kept_setRow _ _ _).below q.size (fun x hx => by omega)), setRow_heap _ _ _ _ _ _ G5.out⟩)
  have ON5 : Hid ((#[.int .i64 kd, .slice x0 y0 z0, .slice x1 y1 z1, .slice x2 y2 z2, .slice x3 y3 z3, .int .i64 nx, .string dt] : Array Value).all (·.oneCell') = true) := Lib.hid (by simp [Value.oneCell'])
  have B5 : Hid (Below w3.heap.size w3 Z2 ∧ Below w.heap.size w Z2) := Lib.hid (by
    have q := L4.out.2.trans (K5.out.1.mono L4.out.2.size)
    exact ⟨q, B3.out.trans (q.mono B3.out.size)⟩)
  have hg5' := hg5.symm; have hZ1' := hZ1.symm; have hZ2' := hZ2.symm
  clear hg5 hZ1 hZ2
  go_wp2_with (refine wpList_store_row rfl 27 (.tmp 5) (.tmp 22) rfl g5 #[.int .i64 kd, .slice x0 y0 z0, .slice x1 y1 z1, .slice x2 y2 z2, .slice x3 y3 z3, .int .i64 nx, .string dt] rfl rfl 27 #[.int .i64 0, .slice none 0 0, .slice none 0 0, .slice none 0 0, .slice none 0 0, .int .i64 0, .string ⟨#[]⟩] G5.out size_node rfl ON5.out ?_; rw [hZ2'])
  refine (ownW_any _ b Z2 (V.out.below B5.out.2) (by have := HBL.out; omega)).mono ?_
  rintro _ w5 ⟨v5, rfl, o5, b5⟩
  have O5 := Lib.hid (And.intro o5.bytes b5)
  clear o5 b5 hg5' hZ1' hZ2'
  go_wp2_with fail
  refine (RD.out _ _ O5.out.1).mono ?_
  rintro _ w6 ⟨u6, rfl, l6, b6⟩
  obtain ⟨i0, j0, k0, i1, j1, k1, i2, j2, k2, i3, j3, k3, rfl⟩ := ls_shape l6
  have L6 := Lib.hid (And.intro l6 b6)
  clear l6 b6
  obtain ⟨g7, hg7⟩ : ∃ x, x = w6.heap.size := ⟨_, rfl⟩
  obtain ⟨Z3, hZ3⟩ : ∃ Z, Z = w6.alloc (.cells #[.int .i64 0, .slice none 0 0, .slice none 0 0, .slice none 0 0, .slice none 0 0, .int .i64 0, .string ⟨#[]⟩] 27) := ⟨_, rfl⟩
  obtain ⟨Z4, hZ4⟩ : ∃ Z, Z = Z3.setRow g7 #[.int .i64 kd, .slice i0 j0 k0, .slice i1 j1 k1, .slice i2 j2 k2, .slice i3 j3 k3, .int .i64 nx, .string dt] := ⟨_, rfl⟩
  have G7 : Hid (Z3.heap[g7]? = some (.cells #[.int .i64 0, .slice none 0 0, .slice none 0 0, .slice none 0 0, .slice none 0 0, .int .i64 0, .string ⟨#[]⟩] 27 (0, 0))) := Lib.hid (by rw [hZ3, hg7]; exact heap_alloc_new _ _)
  have K7 : Hid (Below w6.heap.size w6 Z4 ∧ Z4.heap[g7]? = some (.cells #[.int .i64 kd, .slice i0 j0 k0, .slice i1 j1 k1, .slice i2 j2 k2, .slice i3 j3 k3, .int .i64 nx, .string dt] 27 (0, 0))) := Lib.hid (by
    have q : Below w6.heap.size w6 Z3 := by rw [hZ3]; exact (Below.refl _ _).alloc (Nat.le_refl _) _
    rw [hZ4]
    exact ⟨q.trans ((kept_setRow _ _ _).below q.size (fun x hx => by omega)), setRow_heap _ _ _ _ _ _ G7.out⟩)
  have ON7 : Hid ((#[.int .i64 kd, .slice i0 j0 k0, .slice i1 j1 k1, .slice i2 j2 k2, .slice i3 j3 k3, .int .i64 nx, .string dt] : Array Value).all (·.oneCell') = true) := Lib.hid (by simp [Value.oneCell'])
  have B7 : Hid (Below Z2.heap.size Z2 Z4) := Lib.hid (by
    have q := O5.out.2.trans (L6.out.2.mono O5.out.2.size)
    exact q.trans (K7.out.1.mono q.size))
  have H5 : Hid (Z4.heap[g5]? = some (.cells #[.int .i64 kd, .slice x0 y0 z0, .slice x1 y1 z1, .slice x2 y2 z2, .slice x3 y3 z3, .int .i64 nx, .string dt] 27 (0, 0))) := Lib.hid (by rw [B7.out.block g5 (lt_of_heap K5.out.2)]; exact K5.out.2)
  have SN : Hid (Calls Try.prog 13 #[.agg #[.int .i64 kd, .slice x0 y0 z0, .slice x1 y1 z1, .slice x2 y2 z2, .slice x3 y3 z3, .int .i64 nx, .string dt], .agg #[.int .i64 kd, .slice i0 j0 k0, .slice i1 j1 k1, .slice i2 j2 k2, .slice i3 j3 k3, .int .i64 nx, .string dt]] Z4 fun e w' => e = .returned (.bool true) ∧ Below Z4.heap.size Z4 w') := Lib.hid (by
    have q := sameNode_yes ⟨kd, ents, chs, keys, kids, nx, dt⟩ ⟨.slice x0 y0 z0, .slice x1 y1 z1, .slice x2 y2 z2, .slice x3 y3 z3⟩ ⟨.slice i0 j0 k0, .slice i1 j1 k1, .slice i2 j2 k2, .slice i3 j3 k3⟩ Z4 ((L4.out.1.below K5.out.1).below B7.out) (L6.out.1.below K7.out.1)
    exact q)
  obtain ⟨p0, p1, p2, p3, p4, p5, p6⟩ := node_cells H5.out
  obtain ⟨r0, r1, r2, r3, r4, r5, r6⟩ := node_cells K7.out.2
  have hg7' := hg7.symm; have hZ3' := hZ3.symm; have hZ4' := hZ4.symm
  clear hg7 hZ3 hZ4
  have MK : True := trivial
  go_wp2_with (clear MK; refine wpList_store_row rfl 27 (.tmp 7) (.tmp 28) rfl g7 #[.int .i64 kd, .slice i0 j0 k0, .slice i1 j1 k1, .slice i2 j2 k2, .slice i3 j3 k3, .int .i64 nx, .string dt] rfl rfl 27 #[.int .i64 0, .slice none 0 0, .slice none 0 0, .slice none 0 0, .slice none 0 0, .int .i64 0, .string ⟨#[]⟩] G7.out size_node rfl ON7.out ?_; rw [hZ4'])
  refine SN.out.mono ?_
  rintro _ w7 ⟨rfl, b7⟩
  have BA : Hid (Below w3.heap.size w3 w7 ∧ Below w.heap.size w w7) := Lib.hid (by
    have q := B7.out.trans (b7.mono B7.out.size)
    exact ⟨B5.out.1.trans (q.mono B5.out.1.size), B5.out.2.trans (q.mono B5.out.2.size)⟩)
  clear b7 p0 p1 p2 p3 p4 p5 p6 r0 r1 r2 r3 r4 r5 r6 hg7' hZ3' hZ4'
  go_wp2_with fail
  refine (ownW_any _ b w7 (V.out.below BA.out.2) (by have := HBL.out; omega)).mono ?_
  rintro _ w8 ⟨v8, rfl, o8, b8⟩
  have O8 := Lib.hid (And.intro o8 b8)
  clear o8 b8
  go_wp2_with (at_builtin; refine app3g _ _ rfl rfl rfl O8.out.1 O8.out.2.size rfl HBL.out ?_)
  intro v9 w9 o9 g9
  have K9 : Hid (Below w7.heap.size w7 w9) := Lib.hid (O8.out.2.trans ((grown_kept g9).below O8.out.2.size (fun x hx => (O8.out.1.lt x hx.symm).1)))
  have SM : Hid (Calls Try.prog 14 #[.slice (some ⟨q3, 0, none⟩) n3 c3, v9] w9 fun e w' => e = .returned (.bool true) ∧ w' = w9) := Lib.hid (by
    have q := sameW_any _ v9 _ _ w9 (((O3.out.bytes).below BA.out.1).below K9.out) o9.bytes
    rw [decide_eq_true rfl] at q
    exact q)
  clear o9 g9
  go_wp2_with fail
  refine SM.out.mono ?_
  rintro _ w10 ⟨rfl, rfl⟩
  go_wp2_with fail
  go_ret
  exact ⟨rfl, BA.out.2.trans (K9.out.mono BA.out.2.size)⟩
end Pt
theorem pageReads_walk (v0 : Value) (b : List UInt8) (w : World) (hv : Bytes w v0 b) (hbl : b.length ≤ 140737488351232) :
    Calls Try.prog 5 #[v0] w fun e w' => e = .returned (.bool true) ∧ Below w.heap.size w w' := Pt.reads_walk v0 b w hv hbl
end Go.Proofs.Ytcdejeejhdpkaaa
end S9
