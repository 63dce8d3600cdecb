/-
  AnchorWhole without the program: what a torn superblock leaves.
-/
import Derived.Test.YthjekiddjldehaaAnN
namespace Go.Proofs.Ythjekiddjldehaa
open Go.RowKit Go.Maps
/-- The number that the last eight bytes of a block are. -/
def tl (b : List UInt8) : Nat := leN (b.drop 504)
theorem leN_app : ∀ a b : List UInt8, leN (a ++ b) = leN a + 256 ^ a.length * leN b
  | [], b => by simp [leN]
  | c :: a, b => by
    rw [List.cons_append, leN, leN, leN_app a b, List.length_cons, Nat.pow_succ, Nat.mul_add]
    have : 256 * (256 ^ a.length * leN b) = 256 ^ a.length * 256 * leN b := by rw [Nat.mul_comm (256 ^ a.length) 256, Nat.mul_assoc]
    omega
theorem leN_split (l : List UInt8) (m : Nat) (h : m ≤ l.length) : leN (l.take m) = leN l % 256 ^ m ∧ leN (l.drop m) = leN l / 256 ^ m := by
  have e : leN l = leN (l.take m) + 256 ^ m * leN (l.drop m) := by
    have := leN_app (l.take m) (l.drop m)
    rw [List.take_append_drop, List.length_take, Nat.min_eq_left h] at this
    exact this
  have hl := leN_lt (l.take m)
  rw [List.length_take, Nat.min_eq_left h] at hl
  rw [e]
  refine ⟨?_, ?_⟩
  · rw [Nat.add_mul_mod_self_left, Nat.mod_eq_of_lt hl]
  · rw [Nat.add_mul_div_left _ _ (Nat.pow_pos (by decide)), Nat.div_eq_of_lt hl, Nat.zero_add]
theorem leN_inj {a b : List UInt8} (h : a.length = b.length) (e : leN a = leN b) : a = b := by rw [← leB_leN a, ← leB_leN b, h, e]
theorem tail_lay (s : Sup) : (layA s).drop 504 = leB 8 s.gen.toNat := by
  unfold layA
  rw [← List.append_assoc, List.drop_left' (by rw [List.length_append, hdA_length, leB_length])]
  rfl
theorem tl_lay (s : Sup) (h : Vd s) : tl (layA s) = s.gen.toNat := by
  have e : (256 : Nat) ^ 8 = 18446744073709551616 := by decide
  have := h.g2
  unfold tl
  rw [tail_lay, leN_leB 8 _ (by omega)]
theorem tl_zero : tl (zs 512) = 0 := by kernel_rfl
/-- A torn superblock: whole, or its last number is below its generation. -/
theorem torn (S old : List UInt8) (G j : Nat) (hS : S.length = 512) (ho : old.length = 512) (hG : leN (S.drop 504) = G) (hT : tl old < G) (hj : j ≤ 512) : S.take j ++ old.drop j = S ∨ tl (S.take j ++ old.drop j) < G := by
  have hlj : (S.take j).length = j := by rw [List.length_take]; omega
  by_cases h : j ≤ 504
  · right
    unfold tl
    have e : (S.take j ++ old.drop j).drop 504 = old.drop 504 := by
      rw [List.drop_append, List.drop_eq_nil_of_le (by omega), hlj, List.nil_append, List.drop_drop]
      congr 1
      omega
    rw [e]
    exact hT
  · obtain ⟨m, hm⟩ : ∃ m, j = 504 + m := ⟨j - 504, by omega⟩
    have hm8 : m ≤ 8 := by omega
    have lx : (S.drop 504).length = 8 := by rw [List.length_drop]; omega
    have ly : (old.drop 504).length = 8 := by rw [List.length_drop]; omega
    have e : (S.take j ++ old.drop j).drop 504 = (S.drop 504).take m ++ (old.drop 504).drop m := by
      rw [List.drop_append, hlj, List.drop_take, List.drop_drop, List.drop_drop]
      have e1 : j - 504 = m := by omega
      have e2 : j + (504 - j) = 504 + m := by omega
      rw [e1]
      congr 2
    obtain ⟨x1, x2⟩ := leN_split (S.drop 504) m (by omega)
    obtain ⟨y1, y2⟩ := leN_split (old.drop 504) m (by omega)
    have hle : leN (old.drop 504) / 256 ^ m ≤ leN (S.drop 504) / 256 ^ m := Nat.div_le_div_right (by unfold tl at hT; omega)
    have ev : tl (S.take j ++ old.drop j) = leN (S.drop 504) % 256 ^ m + 256 ^ m * (leN (old.drop 504) / 256 ^ m) := by
      unfold tl
      rw [e, leN_app, x1, y2, List.length_take, Nat.min_eq_left (by omega)]
    have ed := Nat.mod_add_div (leN (S.drop 504)) (256 ^ m)
    rcases Nat.lt_or_ge (leN (old.drop 504) / 256 ^ m) (leN (S.drop 504) / 256 ^ m) with q | q
    · right
      have hp : 0 < 256 ^ m := Nat.pow_pos (by decide)
      have : 256 ^ m * (leN (old.drop 504) / 256 ^ m) < 256 ^ m * (leN (S.drop 504) / 256 ^ m) := Nat.mul_lt_mul_of_pos_left q hp
      omega
    · left
      have eq : (old.drop 504).drop m = (S.drop 504).drop m := leN_inj (by simp only [List.length_drop]; omega) (by rw [x2, y2]; omega)
      rw [List.drop_drop, List.drop_drop] at eq
      have e3 : old.drop j = S.drop j := by rw [hm]; exact eq
      rw [e3, List.take_append_drop]
theorem dec_one {b : List UInt8} {t : Sup} (h : decR b = (t, 0)) : layA t = b ∧ Vd t := by
  unfold decR at h
  split at h
  · have := (Prod.mk.inj h).2; omega
  · split at h
    · rename_i q
      have e := (Prod.mk.inj h).1
      rw [← e]
      exact ⟨q.2, (vd_iff _).1 q.1⟩
    · have := (Prod.mk.inj h).2; omega
/-- What stands in a block whose last number is not above what counts does not count. -/
theorem pick_low {k : Nat} {b : List UInt8} {best : Sup} (h : (tl b : Int) ≤ best.gen) : pickA 64 k (decR b) best = best := by
  unfold pickA
  rw [if_neg]
  rintro ⟨h1, _, _, h4⟩
  have e : decR b = ((decR b).1, 0) := by rw [← h1]
  obtain ⟨e1, e2⟩ := dec_one e
  have e3 := tl_lay _ e2
  rw [e1] at e3
  have := e2.g1
  omega
theorem pick_below {b : List UInt8} {c : Sup} (h : (tl b : Int) ≤ c.gen) (hc : 1 ≤ c.gen) (hp : c.gen % 2 = 1) : (pickA 64 0 (decR b) zeroS).gen < c.gen := by
  unfold pickA
  split
  · rename_i q
    obtain ⟨h1, h2, h3, _⟩ := q
    have e : decR b = ((decR b).1, 0) := by rw [← h1]
    obtain ⟨e1, e2⟩ := dec_one e
    have e3 := tl_lay _ e2
    rw [e1] at e3
    have := e2.g1
    have h3' : (decR b).1.gen % 2 = 0 := h3
    omega
  · show (0 : Int) < c.gen
    omega
/-- What holds of the medium between two Writes. -/
structure Iv (m : List UInt8) (c : Sup) : Prop where
  len : m.length = 512 * 64
  cs : (c = zeroS ∧ raw m 0 = zs 512) ∨ (vaB c 64 = true ∧ raw m (c.gen % 2).toNat = layA c)
  lw : tl (raw m ((c.gen + 1) % 2).toNat) < (c.gen + 1).toNat
theorem Iv.gen {m : List UInt8} {c : Sup} (h : Iv m c) : 0 ≤ c.gen := by
  rcases h.cs with ⟨e, _⟩ | ⟨e, _⟩
  · rw [e]; exact Int.le_refl _
  · have := (va_gen e).1; omega
theorem Iv.bst {ds : DS} {c : Sup} (h : Iv ds.med c) (hc : ds.cache = []) (hn : ds.n = 64) : bst ds 2 = c := by
  have ht := h.lw
  rw [bst_two ds hn, rdB_none hc, rdB_none hc]
  rcases h.cs with ⟨rfl, h0⟩ | ⟨hv, hb⟩
  · have e1 : ((zeroS.gen + 1) % 2).toNat = 1 := rfl
    rw [e1] at ht
    rw [h0, dec_zero, pick_bad]
    refine pick_low ?_
    have e2 : (zeroS.gen + 1).toNat = 1 := rfl
    rw [e2] at ht
    show _ ≤ (0 : Int)
    omega
  · have hg := (va_gen hv).1
    have dec : decR (layA c) = (c, 0) := dec_lay c (vd_of hv)
    rcases (show c.gen % 2 = 0 ∨ c.gen % 2 = 1 by omega) with q | q
    · have e1 : (c.gen % 2).toNat = 0 := by rw [q]; rfl
      have e2 : ((c.gen + 1) % 2).toNat = 1 := by omega
      rw [e1] at hb
      rw [e2] at ht
      rw [hb, dec, pick_yes hv q (by show (0 : Int) < c.gen; omega)]
      exact pick_low (by omega)
    · have e1 : (c.gen % 2).toNat = 1 := by rw [q]; rfl
      have e2 : ((c.gen + 1) % 2).toNat = 0 := by omega
      rw [e1] at hb
      rw [e2] at ht
      rw [hb, dec]
      exact pick_yes hv q (pick_below (by omega) hg q)
theorem iv_zero {z : List UInt8} (hz : Zm z) : Iv z zeroS := ⟨hz.len, Or.inl ⟨rfl, hz.raw 0 (by decide)⟩, by
  have e1 : ((zeroS.gen + 1) % 2).toNat = 1 := rfl
  rw [e1, hz.raw 1 (by decide), tl_zero]
  decide⟩
/-- The next superblock written whole. -/
theorem Iv.next {m m' : List UInt8} {c s : Sup} (h : Iv m c) (hv : vaB s 64 = true) (hg : s.gen = c.gen + 1) (hl : m'.length = 512 * 64) (h1 : raw m' (s.gen % 2).toNat = layA s) (h2 : raw m' (c.gen % 2).toNat = raw m (c.gen % 2).toNat) : Iv m' s := by
  have h0 := h.gen
  refine ⟨hl, Or.inr ⟨hv, h1⟩, ?_⟩
  have e : ((s.gen + 1) % 2).toNat = (c.gen % 2).toNat := by rw [hg]; omega
  rw [e, h2]
  rcases h.cs with ⟨rfl, q⟩ | ⟨q1, q2⟩
  · have e1 : (zeroS.gen % 2).toNat = 0 := rfl
    rw [e1, q, tl_zero]
    omega
  · rw [q2, tl_lay c (vd_of q1)]
    omega
theorem Iv.same {m m' : List UInt8} {c : Sup} (h : Iv m c) (hl : m'.length = 512 * 64) (h2 : raw m' (c.gen % 2).toNat = raw m (c.gen % 2).toNat) (h3 : tl (raw m' ((c.gen + 1) % 2).toNat) < (c.gen + 1).toNat) : Iv m' c := by
  refine ⟨hl, ?_, h3⟩
  rcases h.cs with ⟨e, q⟩ | ⟨q1, q2⟩
  · have e1 : (c.gen % 2).toNat = 0 := by rw [e]; rfl
    rw [e1] at h2
    exact Or.inl ⟨e, by rw [h2]; exact q⟩
  · exact Or.inr ⟨q1, by rw [h2]; exact q2⟩
/-- What a write of the next superblock leaves, torn at whatever byte. -/
theorem Iv.torn {m : List UInt8} {c s : Sup} (h : Iv m c) (hv : vaB s 64 = true) (hg : s.gen = c.gen + 1) (j : Nat) (hj : j ≤ 512) : Iv (lay m (s.gen % 2).toNat ((layA s).take j)) c ∨ Iv (lay m (s.gen % 2).toNat ((layA s).take j)) s := by
  have h0 := h.gen
  have hl := h.len
  obtain ⟨k, hk, hk2, hk3⟩ := gen2 s
  have tlen : ((layA s).take j).length = j := by rw [List.length_take, layA_length]; omega
  have hne : (c.gen % 2).toNat ≠ k := by omega
  have hl' : (lay m k ((layA s).take j)).length = 512 * 64 := by rw [lay_length _ _ _ (by omega), hl]
  have r1 : raw (lay m k ((layA s).take j)) k = (layA s).take j ++ (raw m k).drop j := by
    rw [raw_lay_same _ k _ (by omega) (by omega)]
    unfold splice
    rw [List.take_zero, List.nil_append, Nat.zero_add, tlen]
  have r2 : raw (lay m k ((layA s).take j)) (c.gen % 2).toNat = raw m (c.gen % 2).toNat := raw_lay_other _ k _ _ (by omega) (by omega) hne
  have hT := h.lw
  have e1 : ((c.gen + 1) % 2).toNat = k := by rw [← hg]; exact hk3
  rw [e1] at hT
  rw [hk3]
  have hG : leN ((layA s).drop 504) = s.gen.toNat := tl_lay s (vd_of hv)
  rcases Go.Proofs.Ythjekiddjldehaa.torn (layA s) (raw m k) s.gen.toNat j (layA_length s) (raw_length _ _ (by omega)) hG (by rw [hg]; exact hT) hj with q | q
  · right
    exact h.next hv hg hl' (by rw [hk3, r1]; exact q) r2
  · left
    exact h.same hl' r2 (by rw [e1, r1, ← hg]; exact q)
theorem act_down {s : DS} (h : (actD s).2 = 0) : (actD s).1.down = false := by
  unfold actD at h ⊢
  split at h
  · simp at h
  · rename_i q1
    rw [if_neg q1]
    split at h
    · simp at h
    · rename_i q2
      rw [if_neg q2]
      have hd : s.down = false := by cases hh : s.down; rfl; exact absurd hh q2
      split
      · exact hd
      · exact hd
theorem act_code6 (s : DS) : (actD s).2 = 0 ∨ (actD s).2 = 6 := by
  unfold actD
  split
  · exact .inr rfl
  · split
    · exact .inr rfl
    · split
      · exact .inl rfl
      · exact .inl rfl
theorem keptN_512 (f : Int × Int) : (keptN f).1 ≤ 512 := keptN_le f
/-- What Write and, where it is refused, a crash leave. -/
theorem wr_out {ds : DS} (hc : ds.cache = []) (hn : ds.n = 64) {c s : Sup} (hv : vaB s 64 = true) (hg : s.gen = c.gen + 1) (hi : Iv ds.med c) :
    ((wrA ds s).2 = 0 ∧ (wrA ds s).1.down = false ∧ (wrA ds s).1.cache = [] ∧ (wrA ds s).1.n = 64 ∧ (wrA ds s).1.ws ≤ ds.ws + 1 ∧ Iv (wrA ds s).1.med s) ∨
    ((wrA ds s).2 = 6 ∧ (wrA ds s).1.cache.length ≤ 1 ∧ (wrA ds s).1.n = 64 ∧ (wrA ds s).1.ws ≤ ds.ws + 1 ∧ ∀ fs, Iv (crD (wrA ds s).1 fs).med c ∨ Iv (crD (wrA ds s).1 fs).med s) := by
  obtain ⟨k, hk, hk2, hk3⟩ := gen2 s
  have hv' : vaB s (ds.n : Int) = true := by rw [hn]; exact hv
  have hb : hasB ds (k : Int) = true := by unfold hasB; rw [Bool.and_eq_true, decide_eq_true_iff, decide_eq_true_iff]; omega
  obtain ⟨a1, a2, a3, a4, a5, a6⟩ := act_same ds
  have hw : wrA ds s = if (wrE ds (k : Int) (layA s)).2 ≠ 0 then wrE ds (k : Int) (layA s) else flD (wrE ds (k : Int) (layA s)).1 := by
    unfold wrA
    rw [if_neg (by rw [hv']; simp), hk]
  rw [hw]
  rcases act_code6 ds with q | q
  · have hE : wrE ds (k : Int) (layA s) = (addW (actD ds).1 k (layA s), 0) := by
      unfold wrE
      rw [if_neg (by rw [hb]; simp), if_neg (by rw [layA_length]; simp), if_neg (by rw [q]; simp), Int.toNat_natCast]
    rw [hE, if_neg (by simp)]
    obtain ⟨D, hD⟩ : ∃ D, D = addW (actD ds).1 k (layA s) := ⟨_, rfl⟩
    have dm : D.med = ds.med := by rw [hD]; exact a2
    have dc : D.cache = [(k, layA s)] := by rw [hD]; show (actD ds).1.cache ++ _ = _; rw [a1, hc]; rfl
    have dn : D.n = 64 := by rw [hD]; show (actD ds).1.n = 64; rw [a5, hn]
    have dw : D.ws = ds.ws + 1 := by rw [hD]; show (actD ds).1.ws + 1 = _; rw [a4]
    simp only
    rw [← hD]
    obtain ⟨b1, b2, b3, b4, b5, b6⟩ := act_same D
    rcases act_code6 D with r | r
    · left
      have hF : flD D = ({ (actD D).1 with med := sets (fun _ => (1, 0)) 0 D.cache D.med, cache := [], cf := up D.cf }, 0) := by
        unfold flD
        rw [if_neg (by rw [r]; simp)]
      rw [hF]
      refine ⟨rfl, act_down r, rfl, by show (actD D).1.n = 64; rw [b5, dn], by show (actD D).1.ws ≤ _; rw [b4, dw]; exact Nat.le_refl _, ?_⟩
      show Iv (sets (fun _ => (1, 0)) 0 D.cache D.med) s
      rw [dc, dm]
      have e : sets (fun _ => ((1 : Int), (0 : Int))) 0 [(k, layA s)] ds.med = lay ds.med k (layA s) := by
        show lay ds.med k ((layA s).take (keptN (1, 0)).1) = _
        rw [show (keptN ((1 : Int), (0 : Int))).1 = 512 from rfl, List.take_of_length_le (by rw [layA_length]; exact Nat.le_refl _)]
      rw [e]
      have hl := hi.len
      have h0 := hi.gen
      exact hi.next hv hg (by rw [lay_length _ _ _ (by rw [layA_length]; omega), hl]) (by rw [hk3, raw_lay_same _ k _ (by rw [layA_length]; exact Nat.le_refl _) (by omega), splice_all _ _ (by rw [layA_length, raw_length _ _ (by omega)])]) (raw_lay_other _ k _ _ (by rw [layA_length]; exact Nat.le_refl _) (by omega) (by omega))
    · right
      have hF : flD D = actD D := by
        unfold flD
        rw [if_pos (by rw [r]; decide)]
      rw [hF]
      refine ⟨r, by rw [b1, dc]; exact Nat.le_refl _, by rw [b5, dn], by rw [b4, dw]; exact Nat.le_refl _, fun fs => ?_⟩
      show Iv (sets (fateAt fs) 0 (actD D).1.cache (actD D).1.med) c ∨ Iv (sets (fateAt fs) 0 (actD D).1.cache (actD D).1.med) s
      rw [b1, b2, dc, dm]
      show Iv (lay ds.med k ((layA s).take (keptN (fateAt fs 0)).1)) c ∨ Iv (lay ds.med k ((layA s).take (keptN (fateAt fs 0)).1)) s
      have := hi.torn hv hg (keptN (fateAt fs 0)).1 (keptN_le _)
      rw [hk3] at this
      exact this
  · right
    have hE : wrE ds (k : Int) (layA s) = actD ds := by
      unfold wrE
      rw [if_neg (by rw [hb]; simp), if_neg (by rw [layA_length]; simp), if_pos (by rw [q]; decide)]
    rw [hE, if_pos (by rw [q]; decide)]
    refine ⟨q, by rw [a1, hc]; decide, by rw [a5, hn], by rw [a4]; omega, fun fs => Or.inl ?_⟩
    show Iv (sets (fateAt fs) 0 (actD ds).1.cache (actD ds).1.med) c
    rw [a1, a2, hc]
    exact hi
end Go.Proofs.Ythjekiddjldehaa
