/-
  A page's bytes say the page.
-/
import Derived.Test.YtmoghdpjemidgaaPgOi
import Derived.Test.YtmoghdpjemidgaaPgX
namespace Go.Proofs.Ytmoghdpjemidgaa
open Go.RowKit Go.Maps
theorem u8_nat (n : Nat) (h : n < 256) : (UInt8.ofNat n).toNat = n := by
  first | exact UInt8.toNat_ofNat_of_lt' h | exact UInt8.toNat_ofNat_of_lt h | (simp; omega)
theorem leN_one (a : UInt8) : leN [a] = a.toNat := by simp [leN]
theorem enE_cons (x : Ent) (c : Nat) (Z : List UInt8) : enE x c ++ Z = UInt8.ofNat x.1.size :: UInt8.ofNat (if c = 0 then x.2.size else 255) :: (x.1.data.toList ++ ((if c = 0 then x.2.data.toList else leB 4 c) ++ Z)) := by
  unfold enE
  simp [List.append_assoc]
theorem enR_enE (x : Ent) (c : Nat) (Z : List UInt8) (hk : x.1.size ≤ 120) (hv : x.2.size ≤ 64) (hc : c < 4096) (h0 : c ≠ 0 → x.2.size = 0) : enR (enE x c ++ Z) = (x, c, Z) := by
  rw [enE_cons]
  obtain ⟨xk, xv⟩ := x
  simp only at hk hv h0 ⊢
  have hkl : xk.data.toList.length = xk.size := str_size xk
  have a1 : leN ([UInt8.ofNat xk.size]) = xk.size := by rw [leN_one, u8_nat _ (by omega)]
  by_cases h : c = 0
  · subst h
    simp only [if_true]
    have b1 : leN ([UInt8.ofNat xv.size]) = xv.size := by rw [leN_one, u8_nat _ (by omega)]
    have hvl : xv.data.toList.length = xv.size := str_size xv
    rw [enR_in _ (by simp only [List.drop_succ_cons, List.drop_zero, List.take_succ_cons, List.take_zero]; rw [b1]; omega)]
    simp only [List.drop_succ_cons, List.drop_zero, List.take_succ_cons, List.take_zero, a1, b1]
    rw [List.take_left' hkl, List.drop_left' hkl, List.take_left' hvl, List.drop_left' hvl, list_txt, list_txt]
  · simp only [if_neg h]
    have b1 : leN ([UInt8.ofNat 255]) = 255 := by rw [leN_one, u8_nat _ (by omega)]
    rw [enR_ch _ (by simp only [List.drop_succ_cons, List.drop_zero, List.take_succ_cons, List.take_zero]; exact b1)]
    simp only [List.drop_succ_cons, List.drop_zero, List.take_succ_cons, List.take_zero, a1]
    rw [List.take_left' hkl, List.drop_left' hkl, List.take_left' (leB_length 4 c), List.drop_left' (leB_length 4 c), list_txt, leN_leB 4 c (by omega)]
    have hx : xv = ⟨#[]⟩ := by
      have := h0 h
      obtain ⟨⟨l⟩⟩ := xv
      have hl : l.length = 0 := by simpa [ByteArray.size] using this
      rw [List.length_eq_zero_iff] at hl
      subst hl
      rfl
    rw [hx]
theorem drop_one {α : Type} (l : List α) (k : Nat) (d : α) (h : k < l.length) : l.drop k = l.getD k d :: l.drop (k + 1) := by
  rw [List.drop_eq_getElem_cons h, List.getD_eq_getElem?_getD, List.getElem?_eq_getElem h]
  rfl
theorem rdL_bs (n : Nd) (il : IsLeaf n) (Z : List UInt8) : ∀ j k, k + j = n.ents.length → rdL (j + 1) n.ents.length (n.ents.take k) (n.chs.take k) (((bsL n).drop k).flatten ++ Z) = (n.ents, n.chs)
  | 0, k, h => by
    rw [rdL, if_neg (by rw [List.length_take]; omega), List.take_of_length_le (by omega), List.take_of_length_le (by have := il.c; omega)]
  | j + 1, k, h => by
    have hk : k < n.ents.length := by omega
    have hb : k < (bsL n).length := by rw [bsL_length n il.c]; exact hk
    obtain ⟨r1, r2⟩ := leafG_rel _ _ _ il.g k hk
    obtain ⟨s1, s2, s3⟩ := staB_ch r2
    rw [drop_one (bsL n) k [] hb, bsL_at n il.c k hk, List.flatten_cons, List.append_assoc, rdL, if_pos (by rw [List.length_take, List.length_append, enE_length]; omega)]
    rw [enR_enE _ _ _ r1 (staB_size r2) (by omega) (fun h => s3 (by omega))]
    simp only
    rw [show ((n.chs.getD k 0).toNat : Int) = n.chs.getD k 0 by omega, ← take_oneI n.ents k _ hk, ← take_oneI n.chs k 0 (by have := il.c; omega)]
    exact rdL_bs n il Z j (k + 1) (by omega)
theorem enc_cnt (kd cnt : Nat) (bd : List UInt8) (h : 8 + bd.length ≤ 512) (hc : cnt < 65536) : leN (sub (encL kd cnt bd) 2 2) = cnt := by
  rw [sub_take, enc_take4 kd cnt bd h]
  have e : (hdN kd cnt).drop 2 = leB 2 cnt := rfl
  rw [e, leN_leB 2 cnt (by omega)]
theorem enc_kind (kd cnt : Nat) (bd : List UInt8) (h : 8 + bd.length ≤ 512) : (encL kd cnt bd).getD 1 0 = UInt8.ofNat kd := by
  rw [getD_take _ 1 4 (by decide), enc_take4 kd cnt bd h]
  rfl
theorem ba_nil {t : ByteArray} (h : t.size = 0) : t = ⟨#[]⟩ := by
  obtain ⟨⟨l⟩⟩ := t
  have hl : l.length = 0 := by simpa [ByteArray.size] using h
  rw [List.length_eq_zero_iff] at hl
  subst hl
  rfl
/-- What a page that fits is encoded as. -/
theorem encN_leaf (n : Nd) (il : IsLeaf n) : encN n = encL 1 n.ents.length (bsL n).flatten ∧ cntN n = n.ents.length := by
  have b1 : leafB n = true := (leaf_iff n).2 il
  have e : cntN n = n.ents.length := by unfold cntN; have := il.y; have := il.d; omega
  refine ⟨?_, e⟩
  unfold encN bdN
  rw [if_pos b1, e, il.k]
  rfl
theorem se_leaf (n : Nd) (il : IsLeaf n) (hl : 8 + (bsL n).flatten.length ≤ 512) (hc : n.ents.length < 65536) : seL (encN n) = n := by
  rw [(encN_leaf n il).1]
  unfold seL
  rw [enc_cnt 1 _ _ hl hc, enc_drop8 1 _ _ hl]
  have h := rdL_bs n il (List.replicate (504 - (bsL n).flatten.length) 0) n.ents.length 0 (by omega)
  rw [List.drop_zero, List.take_zero, List.take_zero] at h
  rw [h]
  have h1 := List.length_eq_zero_iff.1 il.y
  have h2 := List.length_eq_zero_iff.1 il.h
  have h3 := ba_nil il.d
  obtain ⟨kind, ents, chs, keys, kids, next, data⟩ := n
  have e1 := il.k
  have e2 := il.n0
  simp only at h1 h2 h3 e1 e2 ⊢
  rw [h1, h2, h3, e1, e2]
theorem enK_cons (k : ByteArray) (c : Nat) (Z : List UInt8) : enK k c ++ Z = UInt8.ofNat k.size :: (k.data.toList ++ (leB 4 c ++ Z)) := by
  unfold enK
  simp [List.append_assoc]
theorem rdI_bs (n : Nd) (il : IsInn n) (Z : List UInt8) : ∀ j k, k + j = n.keys.length → rdI (j + 1) n.keys.length (n.keys.take k) (n.kids.take (k + 1)) (((bsI n).drop k).flatten ++ Z) = (n.keys, n.kids)
  | 0, k, h => by
    rw [rdI, if_neg (by rw [List.length_take]; omega), List.take_of_length_le (by omega), List.take_of_length_le (by have := il.h; omega)]
  | j + 1, k, h => by
    have hk : k < n.keys.length := by omega
    have hb : k < (bsI n).length := by rw [bsI_length]; exact hk
    have r1 := innG_at' _ _ il.g k hk
    obtain ⟨s1, s2⟩ := unl_at il.u (k + 1) (by have := il.h; omega)
    have hkl : (n.keys.getD k ⟨#[]⟩).data.toList.length = (n.keys.getD k ⟨#[]⟩).size := str_size _
    have a1 : leN ([UInt8.ofNat (n.keys.getD k ⟨#[]⟩).size]) = (n.keys.getD k ⟨#[]⟩).size := by rw [leN_one, u8_nat _ (by omega)]
    rw [drop_one (bsI n) k [] hb, bsI_at n k hk, List.flatten_cons, List.append_assoc, rdI, if_pos (by rw [List.length_take, List.length_append, enK_length]; omega)]
    rw [enK_cons]
    simp only [List.drop_succ_cons, List.drop_zero, List.take_succ_cons, List.take_zero, a1]
    rw [List.take_left' hkl, List.drop_left' hkl, List.take_left' (leB_length 4 _), List.drop_left' (leB_length 4 _), list_txt, leN_leB 4 _ (by omega)]
    rw [show (((n.kids.getD (k + 1) 0).toNat : Nat) : Int) = n.kids.getD (k + 1) 0 by omega, ← take_oneI n.keys k _ hk, ← take_oneI n.kids (k + 1) 0 (by have := il.h; omega)]
    exact rdI_bs n il Z j (k + 1) (by omega)
theorem encN_inn (n : Nd) (il : IsInn n) : encN n = encL 2 n.keys.length (leB 4 (n.kids.getD 0 0).toNat ++ (bsI n).flatten) ∧ cntN n = n.keys.length := by
  have b1 : ¬ leafB n = true := fun h => by have := ((leaf_iff n).1 h).k; have := il.k; omega
  have b2 : innB n = true := (inn_iff n).2 il
  have e : cntN n = n.keys.length := by unfold cntN; have := il.e; have := il.d; omega
  refine ⟨?_, e⟩
  unfold encN bdN
  rw [if_neg b1, if_pos b2, e, il.k]
  rfl
theorem se_inn (n : Nd) (il : IsInn n) (hl : 8 + (leB 4 (n.kids.getD 0 0).toNat ++ (bsI n).flatten).length ≤ 512) (hc : n.keys.length < 65536) : seI (encN n) = n := by
  rw [(encN_inn n il).1]
  unfold seI
  rw [enc_cnt 2 _ _ hl hc, enc_drop8 2 _ _ hl]
  obtain ⟨s1, s2⟩ := unl_at il.u 0 (by have := il.h; omega)
  rw [List.append_assoc, List.take_left' (leB_length 4 _), List.drop_left' (leB_length 4 _), leN_leB 4 _ (by omega)]
  have h := rdI_bs n il (List.replicate (504 - (leB 4 (n.kids.getD 0 0).toNat ++ (bsI n).flatten).length) 0) n.keys.length 0 (by omega)
  rw [List.drop_zero, List.take_zero, take_oneI n.kids 0 0 (by have := il.h; omega), List.take_zero, List.nil_append] at h
  rw [show (((n.kids.getD 0 0).toNat : Nat) : Int) = n.kids.getD 0 0 by omega]
  rw [h]
  have h1 := List.length_eq_zero_iff.1 il.e
  have h2 := List.length_eq_zero_iff.1 il.c
  have h3 := ba_nil il.d
  obtain ⟨kind, ents, chs, keys, kids, next, data⟩ := n
  have e1 := il.k
  have e2 := il.n0
  simp only at h1 h2 h3 e1 e2 ⊢
  rw [h1, h2, h3, e1, e2]
theorem encN_ch (n : Nd) (il : IsCh n) : encN n = encL 3 n.data.size (leB 4 n.next.toNat ++ n.data.data.toList) ∧ cntN n = n.data.size := by
  have b1 : ¬ leafB n = true := fun h => by have := ((leaf_iff n).1 h).k; have := il.k; omega
  have b2 : ¬ innB n = true := fun h => by have := ((inn_iff n).1 h).k; have := il.k; omega
  have e : cntN n = n.data.size := by unfold cntN; have := il.e; have := il.y; omega
  refine ⟨?_, e⟩
  unfold encN bdN
  rw [if_neg b1, if_neg b2, e, il.k]
  rfl
theorem ch_next {n : Nd} (il : IsCh n) : 0 ≤ n.next ∧ n.next < 4096 := by
  have := il.x
  rw [Bool.or_eq_true] at this
  rcases this with q | q
  · have := of_decide_eq_true q; omega
  · unfold blkB at q
    rw [Bool.and_eq_true] at q
    have h1 := of_decide_eq_true q.1
    have h2 := of_decide_eq_true q.2
    omega
theorem se_ch (n : Nd) (il : IsCh n) : seC (encN n) = n := by
  have hl : 8 + (leB 4 n.next.toNat ++ n.data.data.toList).length ≤ 512 := by rw [List.length_append, leB_length, str_size]; have := il.d; omega
  rw [(encN_ch n il).1]
  unfold seC
  have hn := ch_next il
  rw [enc_cnt 3 _ _ hl (by have := il.d; omega), enc_drop8 3 _ _ hl, List.append_assoc, List.take_left' (leB_length 4 _), List.drop_left' (leB_length 4 _), leN_leB 4 _ (by omega), List.take_left' (str_size _), list_txt]
  have h1 := List.length_eq_zero_iff.1 il.e
  have h2 := List.length_eq_zero_iff.1 il.c
  have h3 := List.length_eq_zero_iff.1 il.y
  have h4 := List.length_eq_zero_iff.1 il.h
  obtain ⟨kind, ents, chs, keys, kids, next, data⟩ := n
  have e1 := il.k
  simp only at h1 h2 h3 h4 e1 hn ⊢
  rw [h1, h2, h3, h4, e1, show ((next.toNat : Nat) : Int) = next by omega]
/-- What bytes seem to be. -/
def seN (b : List UInt8) : Nd := if b.getD 1 0 = 1 then seL b else if b.getD 1 0 = 2 then seI b else if b.getD 1 0 = 3 then seC b else seO b
theorem fit_cases {n : Nd} (h : fitB n = true) : (IsLeaf n ∧ 8 + (bsL n).flatten.length ≤ 512 ∧ n.ents.length < 65536) ∨ (IsInn n ∧ 8 + (leB 4 (n.kids.getD 0 0).toNat ++ (bsI n).flatten).length ≤ 512 ∧ n.keys.length < 65536) ∨ IsCh n := by
  unfold fitB sizeN at h
  rw [Bool.and_eq_true] at h
  have f1 := of_decide_eq_true h.1
  have f2 := of_decide_eq_true h.2
  by_cases b1 : leafB n = true
  · left
    have il := (leaf_iff n).1 b1
    rw [if_pos b1] at f2
    have hl := leaf_len il
    have h2 := sum_ge (szL n) 1 (fun x hx => by unfold szL at hx; obtain ⟨y, _, rfl⟩ := List.mem_map.1 hx; unfold szE; omega)
    rw [szL_length n il.c] at h2
    exact ⟨il, by rw [hl]; omega, by omega⟩
  · rw [if_neg b1] at f1 f2
    by_cases b2 : innB n = true
    · right; left
      have il := (inn_iff n).1 b2
      rw [if_pos b2] at f2
      have h2 := sum_ge (szI n) 1 (fun x hx => by unfold szI at hx; obtain ⟨y, _, rfl⟩ := List.mem_map.1 hx; unfold szK; omega)
      have h3 : (szI n).length = n.keys.length := by unfold szI; rw [List.length_map]
      rw [h3] at h2
      exact ⟨il, by rw [List.length_append, leB_length, inn_len]; omega, by omega⟩
    · rw [if_neg b2] at f1 f2
      right; right
      by_cases b3 : chB n = true
      · exact (ch_iff n).1 b3
      · rw [if_neg b3] at f1
        omega
/-- A page that fits: its bytes say it; they are 512; the sum is right; the first is not 0. -/
theorem se_enc {n : Nd} (h : fitB n = true) : seN (encN n) = n ∧ (encN n).length = 512 ∧ ∃ kd cnt bd, encN n = encL kd cnt bd ∧ 8 + bd.length ≤ 512 := by
  rcases fit_cases h with ⟨il, h1, h2⟩ | ⟨il, h1, h2⟩ | il
  · have e := (encN_leaf n il).1
    refine ⟨?_, by rw [e]; exact encL_length _ _ _ h1, _, _, _, e, h1⟩
    unfold seN
    rw [if_pos (by rw [e, enc_kind _ _ _ h1]; rfl)]
    exact se_leaf n il h1 h2
  · have e := (encN_inn n il).1
    refine ⟨?_, by rw [e]; exact encL_length _ _ _ h1, _, _, _, e, h1⟩
    unfold seN
    rw [if_neg (by rw [e, enc_kind _ _ _ h1]; decide), if_pos (by rw [e, enc_kind _ _ _ h1]; rfl)]
    exact se_inn n il h1 h2
  · have e := (encN_ch n il).1
    have h1 : 8 + (leB 4 n.next.toNat ++ n.data.data.toList).length ≤ 512 := by rw [List.length_append, leB_length, str_size]; have := il.d; omega
    refine ⟨?_, by rw [e]; exact encL_length _ _ _ h1, _, _, _, e, h1⟩
    unfold seN
    rw [if_neg (by rw [e, enc_kind _ _ _ h1]; decide), if_neg (by rw [e, enc_kind _ _ _ h1]; decide), if_pos (by rw [e, enc_kind _ _ _ h1]; rfl)]
    exact se_ch n il
end Go.Proofs.Ytmoghdpjemidgaa
