/-
  BURSTS: what differs by one has another sum (in the namespace Sm); what turned does on a page.
-/
import Derived.Test.YtmoghdpjemidgaaPgX
namespace Go.Proofs.Ytmoghdpjemidgaa.Sm
theorem sh_ker (x : BitVec 32) (h : sh x = 0#32) : x = 0#32 := by
  unfold sh at h
  cases hx : x.getLsbD 0
  · rw [hx, if_neg (by simp)] at h
    apply BitVec.eq_of_getLsbD_eq; intro i hi
    by_cases q : i = 0
    · subst q; rw [hx]; simp
    · have := congrArg (fun y => y.getLsbD (i - 1)) h
      simp only [BitVec.getLsbD_ushiftRight] at this
      rw [show 1 + (i - 1) = i by omega] at this
      rw [this]; simp
  · rw [hx, if_pos rfl] at h
    have := congrArg (fun y => y.getLsbD 31) h
    simp only [BitVec.getLsbD_xor, BitVec.getLsbD_ushiftRight] at this
    rw [BitVec.getLsbD_of_ge x (1 + 31) (by omega)] at this
    simp at this
theorem shN_ker (n : Nat) (x : BitVec 32) (h : shN n x = 0#32) : x = 0#32 := by
  induction n generalizing x with
  | zero => exact h
  | succ n ih => exact sh_ker x (ih (sh x) h)
theorem shN_inj (n : Nat) {x y : BitVec 32} (h : shN n x = shN n y) : x = y := by
  have e : shN n (x ^^^ y) = 0#32 := by rw [shN_xor, h, BitVec.xor_self]
  have := shN_ker n _ e
  exact BitVec.xor_eq_zero_iff.1 this
theorem by1_xor (y d : BitVec 32) (c : BitVec 8) : by1 (y ^^^ d) c = by1 y c ^^^ shN 8 d := by
  unfold by1; rw [← shN_xor]; congr 1; rw [BitVec.xor_assoc, BitVec.xor_assoc, BitVec.xor_comm d]
theorem over_xor (l : List (BitVec 8)) (y d : BitVec 32) : over (y ^^^ d) l = over y l ^^^ shN (8 * l.length) d := by
  induction l generalizing y d with
  | nil => rfl
  | cons c l ih =>
    show over (by1 (y ^^^ d) c) l = over (by1 y c) l ^^^ _
    rw [by1_xor, ih, shN_add, List.length_cons]; congr 2; omega
theorem shN_bit (j n : Nat) (hj : j < 32) : shN (j + n) (1#32 <<< j) = shN n 1#32 := by
  induction j with
  | zero => simp
  | succ j ih => rw [Nat.succ_add, shN, sh_pow j (by omega)]; exact ih (by omega)
theorem ze_bit (j : Nat) (hj : j < 8) : (1#8 <<< j).zeroExtend 32 = 1#32 <<< j := by
  have key : ∀ j : Fin 8, (1#8 <<< j.val).zeroExtend 32 = 1#32 <<< j.val := by decide
  exact key ⟨j, hj⟩
theorem ze_xor (a b : BitVec 8) : (a ^^^ b).zeroExtend 32 = a.zeroExtend 32 ^^^ b.zeroExtend 32 := by
  apply BitVec.eq_of_getLsbD_eq; intro i hi
  simp [hi]
/-- A bit turned over. -/
theorem flip (l : List (BitVec 8)) (i j : Nat) (x : BitVec 32) (hi : i < l.length) (hj : j < 8) :
    over x (l.set i (l.getD i 0#8 ^^^ 1#8 <<< j)) = over x l ^^^ shN (8 * l.length - (8 * i + j)) 1#32 := by
  have e : l = l.take i ++ l.getD i 0#8 :: l.drop (i + 1) := by
    conv => lhs; rw [← List.take_append_drop i l]
    rw [List.drop_eq_getElem_cons hi]; simp [hi]
  have e2 : l.set i (l.getD i 0#8 ^^^ 1#8 <<< j) = l.take i ++ (l.getD i 0#8 ^^^ 1#8 <<< j) :: l.drop (i + 1) := by
    rw [List.set_eq_take_append_cons_drop, if_pos hi]
  rw [e2]
  conv => rhs; lhs; rw [e]
  rw [over_app, over_app]
  generalize over x (l.take i) = y
  show over (by1 y _) _ = over (by1 y _) _ ^^^ _
  have e3 : by1 y (l.getD i 0#8 ^^^ 1#8 <<< j) = by1 y (l.getD i 0#8) ^^^ shN 8 (1#32 <<< j) := by
    unfold by1; rw [ze_xor, ze_bit j hj, ← BitVec.xor_assoc, shN_xor]
  rw [e3, over_xor, shN_add]
  congr 1
  rw [List.length_drop]
  have e4 : 8 + 8 * (l.length - (i + 1)) = j + (8 * l.length - (8 * i + j)) := by omega
  rw [e4, shN_bit j _ (by omega)]
/-- The burst so far: the bits below i; n of them turned over. -/
def Flp (l c : List (BitVec 8)) (at' i n : Nat) : Prop :=
  c.length = l.length ∧ ∃ m : BitVec 32, (0 < n → m ≠ 0#32) ∧ (∀ j, i ≤ j → m.getLsbD j = false) ∧ ∀ x, over x c = over x l ^^^ shN (8 * l.length - at') m
theorem Flp.start (l : List (BitVec 8)) (at' i : Nat) : Flp l l at' i 0 :=
  ⟨rfl, 0#32, fun h => by omega, fun j _ => by simp, fun x => by rw [shN_zero]; simp⟩
theorem Flp.keep {l c : List (BitVec 8)} {at' i n : Nat} (h : Flp l c at' i n) : Flp l c at' (i + 1) n := by
  obtain ⟨h0, m, h1, h2, h3⟩ := h
  exact ⟨h0, m, h1, fun j hj => h2 j (by omega), h3⟩
theorem Flp.turn {l c : List (BitVec 8)} {at' i n : Nat} (h : Flp l c at' i n) (hi : i < 32) (hk : at' + i < 8 * l.length) :
    Flp l (c.set ((at' + i) / 8) (c.getD ((at' + i) / 8) 0#8 ^^^ 1#8 <<< ((at' + i) % 8))) at' (i + 1) (n + 1) := by
  obtain ⟨h0, m, h1, h2, h3⟩ := h
  refine ⟨by rw [List.length_set]; exact h0, m ^^^ 1#32 <<< i, fun _ e => ?_, fun j hj => ?_, fun x => ?_⟩
  · have := congrArg (fun y => y.getLsbD i) e
    simp only [BitVec.getLsbD_xor, h2 i (Nat.le_refl _), BitVec.getLsbD_shiftLeft] at this
    simp [hi] at this
  · rw [BitVec.getLsbD_xor, h2 j (by omega), BitVec.getLsbD_shiftLeft, BitVec.getLsbD_one]
    have : ¬ (j - i = 0) := by omega
    simp [this]
  · rw [flip c ((at' + i) / 8) ((at' + i) % 8) x (by omega) (by omega), h3 x, shN_xor, BitVec.xor_assoc]
    congr 2
    rw [h0]
    have e : 8 * l.length - at' = i + (8 * l.length - (at' + i)) := by omega
    rw [e, shN_bit i _ hi]
    congr 1; omega
theorem Flp.told {l c : List (BitVec 8)} {at' i n : Nat} (h : Flp l c at' i n) (hn : 0 < n) (x : BitVec 32) : over x c ≠ over x l := by
  obtain ⟨_, m, h1, _, h3⟩ := h
  intro e
  rw [h3 x] at e
  have : shN (8 * l.length - at') m = 0#32 := by
    have := congrArg (fun y => over x l ^^^ y) e
    simp only [← BitVec.xor_assoc, BitVec.xor_self, BitVec.zero_xor] at this
    exact this
  exact h1 hn (shN_ker _ _ this)
theorem u8_turn (y : BitVec 8) (r : Nat) (hr : r < 8) : bits .xor .u8 (c8 y) (2 ^ r % 256) = c8 (y ^^^ 1#8 <<< r) := by
  have key : ∀ r : Fin 8, ((2 : Int) ^ r.val % 256) = c8 (1#8 <<< r.val) := by decide
  rw [key ⟨r, hr⟩]; exact bits_xor_c _ _
end Go.Proofs.Ytmoghdpjemidgaa.Sm
namespace Go.Proofs.Ytmoghdpjemidgaa
open Go.RowKit
def Bv (l : List UInt8) : List (BitVec 8) := l.map (·.toBitVec)
theorem Bv_length (l : List UInt8) : (Bv l).length = l.length := by simp [Bv]
/-- A bit of a byte turned over. -/
def tuB (y : UInt8) (r : Nat) : UInt8 := ⟨y.toBitVec ^^^ 1#8 <<< r⟩
theorem Bv_set (l : List UInt8) (q r : Nat) : Bv (l.set q (tuB (l.getD q 0) r)) = (Bv l).set q ((Bv l).getD q 0#8 ^^^ 1#8 <<< r) := by
  unfold Bv
  rw [List.map_set]
  congr 1
  show (l.getD q 0).toBitVec ^^^ 1#8 <<< r = _
  congr 1
  rw [List.getD_eq_getElem?_getD, List.getD_eq_getElem?_getD, List.getElem?_map]
  cases l[q]? <;> rfl
/-- A block without its sum. -/
def cat (l : List UInt8) : List UInt8 := l.take 4 ++ l.drop 8
theorem cat_length (l : List UInt8) (h : l.length = 512) : (cat l).length = 508 := by simp [cat]; omega
theorem cat_set1 (l : List UInt8) (q : Nat) (z : UInt8) (h : l.length = 512) (hq : q < 4) : cat (l.set q z) = (cat l).set q z ∧ (cat l).getD q 0 = l.getD q 0 := by
  unfold cat
  refine ⟨?_, ?_⟩
  · rw [List.take_set, List.drop_set_of_lt (by omega), List.set_append_left _ _ (by rw [List.length_take]; omega)]
  · rw [List.getD_eq_getElem?_getD, List.getD_eq_getElem?_getD, List.getElem?_append_left (by rw [List.length_take]; omega), List.getElem?_take_of_lt hq]
theorem cat_set3 (l : List UInt8) (q : Nat) (z : UInt8) (h : l.length = 512) (hq : 8 ≤ q) : cat (l.set q z) = (cat l).set (q - 4) z ∧ (cat l).getD (q - 4) 0 = l.getD q 0 := by
  unfold cat
  have e : (l.take 4).length = 4 := by rw [List.length_take]; omega
  refine ⟨?_, ?_⟩
  · rw [List.take_set_of_le (by omega), List.drop_set, if_neg (by omega), List.set_append_right _ _ (by omega), e]
    congr 2
  · rw [List.getD_eq_getElem?_getD, List.getD_eq_getElem?_getD, List.getElem?_append_right (by omega), e, List.getElem?_drop]
    congr 2
    omega
theorem cat_crc {l c : List UInt8} (h : crc (cat c) = crc (cat l)) : Sm.over (~~~ 0#32) (Bv (cat c)) = Sm.over (~~~ 0#32) (Bv (cat l)) := by
  unfold crc Sm.upd at h
  have := BitVec.eq_of_toNat_eq h
  exact BitVec.not_inj.1 this
/-- Which stretch a bit lies in. -/
def stB (k : Nat) : Nat := if k ≥ 64 then 3 else if k ≥ 32 then 2 else 1
/-- Behind i bits of turned: n were turned over, all in the stretch st. -/
structure Tn (l c : List UInt8) (at' i n st : Nat) : Prop where
  ll : l.length = 512
  whole : Sm.Flp (Bv l) (Bv c) at' i n
  zero : st = 0 → c = l ∧ n = 0
  one : st = 1 → c.drop 4 = l.drop 4 ∧ Sm.Flp (Bv (cat l)) (Bv (cat c)) at' i n
  two : st = 2 → c.take 4 = l.take 4 ∧ c.drop 8 = l.drop 8
  three : st = 3 → c.take 8 = l.take 8 ∧ Sm.Flp (Bv (cat l)) (Bv (cat c)) (at' - 32) i n
  s3 : st ≤ 3
theorem Tn.len {l c : List UInt8} {at' i n st : Nat} (h : Tn l c at' i n st) : c.length = 512 := by
  have := h.whole.1
  rw [Bv_length, Bv_length, h.ll] at this
  exact this
theorem Tn.start (l : List UInt8) (at' : Nat) (h : l.length = 512) : Tn l l at' 0 0 0 :=
  ⟨h, Sm.Flp.start _ _ _, fun _ => ⟨rfl, rfl⟩, fun h => by omega, fun h => by omega, fun h => by omega, by omega⟩
theorem Tn.keep {l c : List UInt8} {at' i n st : Nat} (h : Tn l c at' i n st) : Tn l c at' (i + 1) n st :=
  ⟨h.ll, h.whole.keep, h.zero, fun q => ⟨(h.one q).1, (h.one q).2.keep⟩, h.two, fun q => ⟨(h.three q).1, (h.three q).2.keep⟩, h.s3⟩
theorem Tn.turn {l c : List UInt8} {at' i n st : Nat} (h : Tn l c at' i n st) (hi : i < 32) (hk : at' + i < 4096) (hst : st = 0 ∨ st = stB (at' + i)) :
    Tn l (c.set ((at' + i) / 8) (tuB (c.getD ((at' + i) / 8) 0) ((at' + i) % 8))) at' (i + 1) (n + 1) (stB (at' + i)) := by
  have hl := h.ll
  have hc := h.len
  have w := h.whole.turn hi (by rw [Bv_length, hl]; omega)
  rw [← Bv_set] at w
  refine ⟨hl, w, fun q => ?_, fun q => ?_, fun q => ?_, fun q => ?_, by unfold stB; split <;> (try split) <;> omega⟩
  · unfold stB at q; split at q <;> (try split at q) <;> omega
  · have hk1 : at' + i < 32 := by unfold stB at q; split at q <;> (try split at q) <;> omega
    have old : c.drop 4 = l.drop 4 ∧ Sm.Flp (Bv (cat l)) (Bv (cat c)) at' i n := by
      rcases hst with e | e
      · obtain ⟨rfl, rfl⟩ := h.zero e
        exact ⟨rfl, Sm.Flp.start _ _ _⟩
      · exact h.one (by rw [e, q])
    refine ⟨?_, ?_⟩
    · rw [List.drop_set_of_lt (by omega)]; exact old.1
    · have f := old.2.turn hi (by rw [Bv_length, cat_length l hl]; omega)
      rw [← Bv_set] at f
      obtain ⟨e1, e2⟩ := cat_set1 c ((at' + i) / 8) (tuB (c.getD ((at' + i) / 8) 0) ((at' + i) % 8)) hc (by omega)
      rw [e2] at f
      rw [e1]; exact f
  · have hk1 : 32 ≤ at' + i ∧ at' + i < 64 := by unfold stB at q; split at q <;> (try split at q) <;> omega
    have old : c.take 4 = l.take 4 ∧ c.drop 8 = l.drop 8 := by
      rcases hst with e | e
      · obtain ⟨rfl, _⟩ := h.zero e
        exact ⟨rfl, rfl⟩
      · exact h.two (by rw [e, q])
    refine ⟨?_, ?_⟩
    · rw [List.take_set_of_le (by omega)]; exact old.1
    · rw [List.drop_set_of_lt (by omega)]; exact old.2
  · have hk1 : 64 ≤ at' + i := by unfold stB at q; split at q <;> (try split at q) <;> omega
    have old : c.take 8 = l.take 8 ∧ Sm.Flp (Bv (cat l)) (Bv (cat c)) (at' - 32) i n := by
      rcases hst with e | e
      · obtain ⟨rfl, rfl⟩ := h.zero e
        exact ⟨rfl, Sm.Flp.start _ _ _⟩
      · exact h.three (by rw [e, q])
    refine ⟨?_, ?_⟩
    · rw [List.take_set_of_le (by omega)]; exact old.1
    · have f := old.2.turn hi (by rw [Bv_length, cat_length l hl]; omega)
      rw [← Bv_set] at f
      have d1 : (at' - 32 + i) / 8 = (at' + i) / 8 - 4 := by omega
      have d2 : (at' - 32 + i) % 8 = (at' + i) % 8 := by omega
      rw [d1, d2] at f
      obtain ⟨e1, e2⟩ := cat_set3 c ((at' + i) / 8) (tuB (c.getD ((at' + i) / 8) 0) ((at' + i) % 8)) hc (by omega)
      rw [e2] at f
      rw [e1]; exact f
/-- A block whose sum is right. -/
def SumOk (l : List UInt8) : Prop := crc (cat l) = leN (sub l 4 4)
theorem Tn.told {l c : List UInt8} {at' i n st : Nat} (h : Tn l c at' i n st) (hn : 0 < n) (hl : SumOk l) : ¬ SumOk c := by
  intro hc
  unfold SumOk at hl hc
  have h3 := h.s3
  rcases (by omega : st = 0 ∨ st = 1 ∨ st = 2 ∨ st = 3) with e | e | e | e
  · have := (h.zero e).2; omega
  · obtain ⟨h1, h2⟩ := h.one e
    refine h2.told hn (~~~ 0#32) (cat_crc ?_)
    rw [hl, hc]
    unfold sub
    rw [h1]
  · obtain ⟨h1, h2⟩ := h.two e
    have e1 : cat c = cat l := by unfold cat; rw [h1, h2]
    have e2 : sub c 4 4 = sub l 4 4 := by
      have q : leN (sub c 4 4) = leN (sub l 4 4) := by rw [← hl, ← hc, e1]
      have l1 : (sub c 4 4).length = 4 := by unfold sub; rw [List.length_take, List.length_drop, h.len]; rfl
      have l2 : (sub l 4 4).length = 4 := by unfold sub; rw [List.length_take, List.length_drop, h.ll]; rfl
      rw [← leB_leN (sub c 4 4), ← leB_leN (sub l 4 4), q, l1, l2]
    have e3 : c = l := by
      have d : ∀ z : List UInt8, z = z.take 4 ++ (sub z 4 4 ++ z.drop 8) := fun z => by
        unfold sub
        conv => lhs; rw [← List.take_append_drop 4 z, ← List.take_append_drop 4 (z.drop 4), List.drop_drop]
      rw [d c, d l, h1, e2, h2]
    subst e3
    exact h.whole.told hn 0#32 rfl
  · obtain ⟨h1, h2⟩ := h.three e
    refine h2.told hn (~~~ 0#32) (cat_crc ?_)
    rw [hl, hc]
    have d : ∀ z : List UInt8, sub z 4 4 = (z.take 8).drop 4 := fun z => by
      unfold sub
      rw [List.drop_take]
    rw [d c, d l, h1]
theorem enc_ok (kd cnt : Nat) (bd : List UInt8) (h : 8 + bd.length ≤ 512) : SumOk (encL kd cnt bd) := by
  unfold SumOk
  have e0 := en0_length kd cnt bd h
  have e1 : cat (encL kd cnt bd) = (en0 kd cnt bd).take 4 ++ (en0 kd cnt bd).drop 8 := by
    unfold cat encL
    rw [splice_take4 _ _ (by omega) (leB_length _ _), splice_drop8 _ _ (by omega) (leB_length _ _)]
  have e2 : sub (encL kd cnt bd) 4 4 = leB 4 (crc ((en0 kd cnt bd).take 4 ++ (en0 kd cnt bd).drop 8)) := by
    unfold sub encL splice
    rw [List.drop_left' (by rw [List.length_take]; omega), List.take_left' (leB_length _ _)]
  rw [e1, e2, leN_leB 4 _ (crc_lt _)]
end Go.Proofs.Ytmoghdpjemidgaa
