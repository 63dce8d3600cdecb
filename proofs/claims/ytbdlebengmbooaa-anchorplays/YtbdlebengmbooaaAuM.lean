/-
  AuA, AuB, AnO, AnF, joined.
-/
import Derived.Test.YtbdlebengmbooaaAnB
import Derived.RegionTactic
import Derived.BigRegion
import Derived.Laws.OwnMore
import Derived.Test.YtbdlebengmbooaaFlA
section S0
namespace Go.Proofs.Ytbdlebengmbooaa.Sm
theorem sh_ker (x : BitVec 32) (h : sh x = 0#32) : x = 0#32 := by
  unfold sh at h
  cases hx : x.getLsbD 0
  · rw [hx, if_neg (by simp)] at h
    apply BitVec.eq_of_getLsbD_eq; intro i hi
    by_cases q : i = 0
    · subst q; rw [hx]; simp
    · have := congrArg (fun y => y.getLsbD (i - 1)) h
      simp only [BitVec.getLsbD_ushiftRight] at this
      rw [show 1 + (i - 1) = i by omega] at this
      rw [this]; simp
  · rw [hx, if_pos rfl] at h
    have := congrArg (fun y => y.getLsbD 31) h
    simp only [BitVec.getLsbD_xor, BitVec.getLsbD_ushiftRight] at this
    rw [BitVec.getLsbD_of_ge x (1 + 31) (by omega)] at this
    simp at this
theorem shN_ker (n : Nat) (x : BitVec 32) (h : shN n x = 0#32) : x = 0#32 := by
  induction n generalizing x with
  | zero => exact h
  | succ n ih => exact sh_ker x (ih (sh x) h)
theorem shN_inj (n : Nat) {x y : BitVec 32} (h : shN n x = shN n y) : x = y := by
  have e : shN n (x ^^^ y) = 0#32 := by rw [shN_xor, h, BitVec.xor_self]
  have := shN_ker n _ e
  exact BitVec.xor_eq_zero_iff.1 this
theorem by1_xor (y d : BitVec 32) (c : BitVec 8) : by1 (y ^^^ d) c = by1 y c ^^^ shN 8 d := by
  unfold by1; rw [← shN_xor]; congr 1; rw [BitVec.xor_assoc, BitVec.xor_assoc, BitVec.xor_comm d]
theorem over_xor (l : List (BitVec 8)) (y d : BitVec 32) : over (y ^^^ d) l = over y l ^^^ shN (8 * l.length) d := by
  induction l generalizing y d with
  | nil => rfl
  | cons c l ih =>
    show over (by1 (y ^^^ d) c) l = over (by1 y c) l ^^^ _
    rw [by1_xor, ih, shN_add, List.length_cons]; congr 2; omega
theorem shN_bit (j n : Nat) (hj : j < 32) : shN (j + n) (1#32 <<< j) = shN n 1#32 := by
  induction j with
  | zero => simp
  | succ j ih => rw [Nat.succ_add, shN, sh_pow j (by omega)]; exact ih (by omega)
theorem ze_bit (j : Nat) (hj : j < 8) : (1#8 <<< j).zeroExtend 32 = 1#32 <<< j := by
  have key : ∀ j : Fin 8, (1#8 <<< j.val).zeroExtend 32 = 1#32 <<< j.val := by decide
  exact key ⟨j, hj⟩
theorem ze_xor (a b : BitVec 8) : (a ^^^ b).zeroExtend 32 = a.zeroExtend 32 ^^^ b.zeroExtend 32 := by
  apply BitVec.eq_of_getLsbD_eq; intro i hi
  simp [hi]
/-- A bit turned over. -/
theorem flip (l : List (BitVec 8)) (i j : Nat) (x : BitVec 32) (hi : i < l.length) (hj : j < 8) :
    over x (l.set i (l.getD i 0#8 ^^^ 1#8 <<< j)) = over x l ^^^ shN (8 * l.length - (8 * i + j)) 1#32 := by
  have e : l = l.take i ++ l.getD i 0#8 :: l.drop (i + 1) := by
    conv => lhs; rw [← List.take_append_drop i l]
    rw [List.drop_eq_getElem_cons hi]; simp [hi]
  have e2 : l.set i (l.getD i 0#8 ^^^ 1#8 <<< j) = l.take i ++ (l.getD i 0#8 ^^^ 1#8 <<< j) :: l.drop (i + 1) := by
    rw [List.set_eq_take_append_cons_drop, if_pos hi]
  rw [e2]
  conv => rhs; lhs; rw [e]
  rw [over_app, over_app]
  generalize over x (l.take i) = y
  show over (by1 y _) _ = over (by1 y _) _ ^^^ _
  have e3 : by1 y (l.getD i 0#8 ^^^ 1#8 <<< j) = by1 y (l.getD i 0#8) ^^^ shN 8 (1#32 <<< j) := by
    unfold by1; rw [ze_xor, ze_bit j hj, ← BitVec.xor_assoc, shN_xor]
  rw [e3, over_xor, shN_add]
  congr 1
  rw [List.length_drop]
  have e4 : 8 + 8 * (l.length - (i + 1)) = j + (8 * l.length - (8 * i + j)) := by omega
  rw [e4, shN_bit j _ (by omega)]
/-- The burst so far: the bits below i; n of them turned over. -/
def Flp (l c : List (BitVec 8)) (at' i n : Nat) : Prop :=
  c.length = l.length ∧ ∃ m : BitVec 32, (0 < n → m ≠ 0#32) ∧ (∀ j, i ≤ j → m.getLsbD j = false) ∧ ∀ x, over x c = over x l ^^^ shN (8 * l.length - at') m
theorem Flp.start (l : List (BitVec 8)) (at' i : Nat) : Flp l l at' i 0 :=
  ⟨rfl, 0#32, fun h => by omega, fun j _ => by simp, fun x => by rw [shN_zero]; simp⟩
theorem Flp.keep {l c : List (BitVec 8)} {at' i n : Nat} (h : Flp l c at' i n) : Flp l c at' (i + 1) n := by
  obtain ⟨h0, m, h1, h2, h3⟩ := h
  exact ⟨h0, m, h1, fun j hj => h2 j (by omega), h3⟩
theorem Flp.turn {l c : List (BitVec 8)} {at' i n : Nat} (h : Flp l c at' i n) (hi : i < 32) (hk : at' + i < 8 * l.length) :
    Flp l (c.set ((at' + i) / 8) (c.getD ((at' + i) / 8) 0#8 ^^^ 1#8 <<< ((at' + i) % 8))) at' (i + 1) (n + 1) := by
  obtain ⟨h0, m, h1, h2, h3⟩ := h
  refine ⟨by rw [List.length_set]; exact h0, m ^^^ 1#32 <<< i, fun _ e => ?_, fun j hj => ?_, fun x => ?_⟩
  · have := congrArg (fun y => y.getLsbD i) e
    simp only [BitVec.getLsbD_xor, h2 i (Nat.le_refl _), BitVec.getLsbD_shiftLeft] at this
    simp [hi] at this
  · rw [BitVec.getLsbD_xor, h2 j (by omega), BitVec.getLsbD_shiftLeft, BitVec.getLsbD_one]
    have : ¬ (j - i = 0) := by omega
    simp [this]
  · rw [flip c ((at' + i) / 8) ((at' + i) % 8) x (by omega) (by omega), h3 x, shN_xor, BitVec.xor_assoc]
    congr 2
    rw [h0]
    have e : 8 * l.length - at' = i + (8 * l.length - (at' + i)) := by omega
    rw [e, shN_bit i _ hi]
    congr 1; omega
theorem Flp.told {l c : List (BitVec 8)} {at' i n : Nat} (h : Flp l c at' i n) (hn : 0 < n) (x : BitVec 32) : over x c ≠ over x l := by
  obtain ⟨_, m, h1, _, h3⟩ := h
  intro e
  rw [h3 x] at e
  have : shN (8 * l.length - at') m = 0#32 := by
    have := congrArg (fun y => over x l ^^^ y) e
    simp only [← BitVec.xor_assoc, BitVec.xor_self, BitVec.zero_xor] at this
    exact this
  exact h1 hn (shN_ker _ _ this)
theorem u8_turn (y : BitVec 8) (r : Nat) (hr : r < 8) : bits .xor .u8 (c8 y) (2 ^ r % 256) = c8 (y ^^^ 1#8 <<< r) := by
  have key : ∀ r : Fin 8, ((2 : Int) ^ r.val % 256) = c8 (1#8 <<< r.val) := by decide
  rw [key ⟨r, hr⟩]; exact bits_xor_c _ _
end Go.Proofs.Ytbdlebengmbooaa.Sm
namespace Go.Proofs.Ytbdlebengmbooaa
open Go.RowKit
def Bv (l : List UInt8) : List (BitVec 8) := l.map (·.toBitVec)
theorem Bv_length (l : List UInt8) : (Bv l).length = l.length := by simp [Bv]
/-- A bit of a byte turned over. -/
def tuB (y : UInt8) (r : Nat) : UInt8 := ⟨y.toBitVec ^^^ 1#8 <<< r⟩
theorem Bv_set (l : List UInt8) (q r : Nat) : Bv (l.set q (tuB (l.getD q 0) r)) = (Bv l).set q ((Bv l).getD q 0#8 ^^^ 1#8 <<< r) := by
  unfold Bv
  rw [List.map_set]
  congr 1
  show (l.getD q 0).toBitVec ^^^ 1#8 <<< r = _
  congr 1
  rw [List.getD_eq_getElem?_getD, List.getD_eq_getElem?_getD, List.getElem?_map]
  cases l[q]? <;> rfl
/-- A block without its sum. -/
def cat (l : List UInt8) : List UInt8 := l.take 500 ++ l.drop 504
theorem cat_length (l : List UInt8) (h : l.length = 512) : (cat l).length = 508 := by simp [cat]; omega
theorem cat_set1 (l : List UInt8) (q : Nat) (z : UInt8) (h : l.length = 512) (hq : q < 500) : cat (l.set q z) = (cat l).set q z ∧ (cat l).getD q 0 = l.getD q 0 := by
  unfold cat
  refine ⟨?_, ?_⟩
  · rw [List.take_set, List.drop_set_of_lt (by omega), List.set_append_left _ _ (by rw [List.length_take]; omega)]
  · rw [List.getD_eq_getElem?_getD, List.getD_eq_getElem?_getD, List.getElem?_append_left (by rw [List.length_take]; omega), List.getElem?_take_of_lt hq]
theorem cat_set3 (l : List UInt8) (q : Nat) (z : UInt8) (h : l.length = 512) (hq : 504 ≤ q) : cat (l.set q z) = (cat l).set (q - 4) z ∧ (cat l).getD (q - 4) 0 = l.getD q 0 := by
  unfold cat
  have e : (l.take 500).length = 500 := by rw [List.length_take]; omega
  refine ⟨?_, ?_⟩
  · rw [List.take_set_of_le (by omega), List.drop_set, if_neg (by omega), List.set_append_right _ _ (by omega), e, show q - 4 - 500 = q - 504 by omega]
  · rw [List.getD_eq_getElem?_getD, List.getD_eq_getElem?_getD, List.getElem?_append_right (by omega), e, List.getElem?_drop, show 504 + (q - 4 - 500) = q by omega]
theorem cat_crc {l c : List UInt8} (h : crc (cat c) = crc (cat l)) : Sm.over (~~~ 0#32) (Bv (cat c)) = Sm.over (~~~ 0#32) (Bv (cat l)) := by
  unfold crc Sm.upd at h
  have := BitVec.eq_of_toNat_eq h
  exact BitVec.not_inj.1 this
/-- Which stretch a bit lies in. -/
def stB (k : Nat) : Nat := if k ≥ 4032 then 3 else if k ≥ 4000 then 2 else 1
/-- Behind i bits of turned: n were turned over, all in the stretch st. -/
structure Tn (l c : List UInt8) (at' i n st : Nat) : Prop where
  ll : l.length = 512
  whole : Sm.Flp (Bv l) (Bv c) at' i n
  zero : st = 0 → c = l ∧ n = 0
  one : st = 1 → c.drop 500 = l.drop 500 ∧ Sm.Flp (Bv (cat l)) (Bv (cat c)) at' i n
  two : st = 2 → c.take 500 = l.take 500 ∧ c.drop 504 = l.drop 504
  three : st = 3 → c.take 504 = l.take 504 ∧ Sm.Flp (Bv (cat l)) (Bv (cat c)) (at' - 32) i n
  s3 : st ≤ 3
theorem Tn.len {l c : List UInt8} {at' i n st : Nat} (h : Tn l c at' i n st) : c.length = 512 := by
  have := h.whole.1
  rw [Bv_length, Bv_length, h.ll] at this
  exact this
theorem Tn.start (l : List UInt8) (at' : Nat) (h : l.length = 512) : Tn l l at' 0 0 0 :=
  ⟨h, Sm.Flp.start _ _ _, fun _ => ⟨rfl, rfl⟩, fun h => by omega, fun h => by omega, fun h => by omega, by omega⟩
theorem Tn.keep {l c : List UInt8} {at' i n st : Nat} (h : Tn l c at' i n st) : Tn l c at' (i + 1) n st :=
  ⟨h.ll, h.whole.keep, h.zero, fun q => ⟨(h.one q).1, (h.one q).2.keep⟩, h.two, fun q => ⟨(h.three q).1, (h.three q).2.keep⟩, h.s3⟩
theorem Tn.turn {l c : List UInt8} {at' i n st : Nat} (h : Tn l c at' i n st) (hi : i < 32) (hk : at' + i < 4096) (hst : st = 0 ∨ st = stB (at' + i)) :
    Tn l (c.set ((at' + i) / 8) (tuB (c.getD ((at' + i) / 8) 0) ((at' + i) % 8))) at' (i + 1) (n + 1) (stB (at' + i)) := by
  have hl := h.ll
  have hc := h.len
  have w := h.whole.turn hi (by rw [Bv_length, hl]; omega)
  rw [← Bv_set] at w
  refine ⟨hl, w, fun q => ?_, fun q => ?_, fun q => ?_, fun q => ?_, by unfold stB; split <;> (try split) <;> omega⟩
  · unfold stB at q; split at q <;> (try split at q) <;> omega
  · have hk1 : at' + i < 4000 := by unfold stB at q; split at q <;> (try split at q) <;> omega
    have old : c.drop 500 = l.drop 500 ∧ Sm.Flp (Bv (cat l)) (Bv (cat c)) at' i n := by
      rcases hst with e | e
      · obtain ⟨rfl, rfl⟩ := h.zero e
        exact ⟨rfl, Sm.Flp.start _ _ _⟩
      · exact h.one (by rw [e, q])
    refine ⟨?_, ?_⟩
    · rw [List.drop_set_of_lt (by omega)]; exact old.1
    · have f := old.2.turn hi (by rw [Bv_length, cat_length l hl]; omega)
      rw [← Bv_set] at f
      obtain ⟨e1, e2⟩ := cat_set1 c ((at' + i) / 8) (tuB (c.getD ((at' + i) / 8) 0) ((at' + i) % 8)) hc (by omega)
      rw [e2] at f
      rw [e1]; exact f
  · have hk1 : 4000 ≤ at' + i ∧ at' + i < 4032 := by unfold stB at q; split at q <;> (try split at q) <;> omega
    have old : c.take 500 = l.take 500 ∧ c.drop 504 = l.drop 504 := by
      rcases hst with e | e
      · obtain ⟨rfl, _⟩ := h.zero e
        exact ⟨rfl, rfl⟩
      · exact h.two (by rw [e, q])
    refine ⟨?_, ?_⟩
    · rw [List.take_set_of_le (by omega)]; exact old.1
    · rw [List.drop_set_of_lt (by omega)]; exact old.2
  · have hk1 : 4032 ≤ at' + i := by unfold stB at q; split at q <;> (try split at q) <;> omega
    have old : c.take 504 = l.take 504 ∧ Sm.Flp (Bv (cat l)) (Bv (cat c)) (at' - 32) i n := by
      rcases hst with e | e
      · obtain ⟨rfl, rfl⟩ := h.zero e
        exact ⟨rfl, Sm.Flp.start _ _ _⟩
      · exact h.three (by rw [e, q])
    refine ⟨?_, ?_⟩
    · rw [List.take_set_of_le (by omega)]; exact old.1
    · have f := old.2.turn hi (by rw [Bv_length, cat_length l hl]; omega)
      rw [← Bv_set] at f
      have d1 : (at' - 32 + i) / 8 = (at' + i) / 8 - 4 := by omega
      have d2 : (at' - 32 + i) % 8 = (at' + i) % 8 := by omega
      rw [d1, d2] at f
      obtain ⟨e1, e2⟩ := cat_set3 c ((at' + i) / 8) (tuB (c.getD ((at' + i) / 8) 0) ((at' + i) % 8)) hc (by omega)
      rw [e2] at f
      rw [e1]; exact f
/-- A block whose sum is right. -/
def SumOk (l : List UInt8) : Prop := crc (cat l) = leN (sub l 500 4)
theorem Tn.told {l c : List UInt8} {at' i n st : Nat} (h : Tn l c at' i n st) (hn : 0 < n) (hl : SumOk l) : ¬ SumOk c := by
  intro hc
  unfold SumOk at hl hc
  have h3 := h.s3
  rcases (by omega : st = 0 ∨ st = 1 ∨ st = 2 ∨ st = 3) with e | e | e | e
  · have := (h.zero e).2; omega
  · obtain ⟨h1, h2⟩ := h.one e
    refine h2.told hn (~~~ 0#32) (cat_crc ?_)
    rw [hl, hc]
    unfold sub
    rw [h1]
  · obtain ⟨h1, h2⟩ := h.two e
    have e1 : cat c = cat l := by unfold cat; rw [h1, h2]
    have e2 : sub c 500 4 = sub l 500 4 := by
      have q : leN (sub c 500 4) = leN (sub l 500 4) := by rw [← hl, ← hc, e1]
      have l1 : (sub c 500 4).length = 4 := by unfold sub; rw [List.length_take, List.length_drop, h.len]; rfl
      have l2 : (sub l 500 4).length = 4 := by unfold sub; rw [List.length_take, List.length_drop, h.ll]; rfl
      rw [← leB_leN (sub c 500 4), ← leB_leN (sub l 500 4), q, l1, l2]
    have e3 : c = l := by
      have d : ∀ z : List UInt8, z = z.take 500 ++ (sub z 500 4 ++ z.drop 504) := fun z => by
        unfold sub
        conv => lhs; rw [← List.take_append_drop 500 z, ← List.take_append_drop 4 (z.drop 500), List.drop_drop]
      rw [d c, d l, h1, e2, h2]
    subst e3
    exact h.whole.told hn 0#32 rfl
  · obtain ⟨h1, h2⟩ := h.three e
    refine h2.told hn (~~~ 0#32) (cat_crc ?_)
    rw [hl, hc]
    have d : ∀ z : List UInt8, sub z 500 4 = (z.take 504).drop 500 := fun z => by
      unfold sub
      rw [List.drop_take]
    rw [d c, d l, h1]
theorem lay_ok (s : Sup) : SumOk (layA s) := by
  unfold SumOk
  have e0 : (hdA s ++ (leB 4 (crc (hdA s ++ bdA s)) ++ bdA s)).drop 504 = bdA s := by
    rw [← List.append_assoc]
    exact List.drop_left' (by rw [List.length_append, hdA_length, leB_length])
  have e1 : cat (layA s) = hdA s ++ bdA s := by
    unfold cat layA
    rw [List.take_left' (hdA_length s), e0]
  have e2 : sub (layA s) 500 4 = leB 4 (crc (hdA s ++ bdA s)) := by
    unfold sub layA
    rw [List.drop_left' (hdA_length s), List.take_left' (leB_length _ _)]
  rw [e1, e2, leN_leB 4 _ (crc_lt _)]
end Go.Proofs.Ytbdlebengmbooaa
end S0

section S1
namespace Go.Proofs.Ytbdlebengmbooaa
open Go.RowKit Go.Maps
theorem take_one8 (l : List UInt8) (k : Nat) (h : k < l.length) : l.take (k + 1) = l.take k ++ [l.getD k 0] := by
  rw [List.take_add_one, List.getElem?_eq_getElem h, Option.toList_some, List.getD_eq_getElem?_getD, List.getElem?_eq_getElem h, Option.getD_some]
set_option maxRecDepth 100000 in
set_option maxHeartbeats 1000000 in
theorem ownW_any (v : Value) (l : List UInt8) (w : World) (hv : Bytes w v l) (hl : l.length ≤ 140737488355300) :
    Calls Try.prog 15 #[v] w fun e w' => ∃ v', e = .returned v' ∧ Own w.heap.size w' v' l ∧ Below w.heap.size w w' := by
  obtain ⟨a, cap, rfl, hlc, hcm, _, hc⟩ := hv
  unfold maxLen at hcm
  obtain ⟨n, hn⟩ : ∃ n, n = l.length := ⟨_, rfl⟩
  have HC : Hid (∀ k, k < n → ∃ b off, a = some ⟨b, off, none⟩ ∧ w.cell? ⟨b, off + k, none⟩ = some (.int .u8 (c8 (l.getD k 0)))) := Lib.hid (by rw [hn]; exact hc)
  rw [← hn] at hlc hl ⊢
  have NN := Lib.hid hn
  clear hn hc
  go_enter Try.func15, Try.ntmps15
  go_wp2_with fail
  go_loopg [3, 4] n (fun g sv si wr => ∃ (k : Nat), k ≤ n ∧ g = n - k ∧ si = .int .i64 k ∧ Own w.heap.size wr sv (l.take k) ∧ Below w.heap.size w wr)
  case atStart => exact ⟨0, Nat.zero_le _, rfl, rfl, World.ownsRow_nil _ _ _ _, Below.refl _ _⟩
  case round =>
    obtain ⟨k, hk, hg, rfl, ho, hb⟩ := hrel
    have O := Lib.hid ho
    have Bl := Lib.hid hb
    have G := Lib.hid hg
    clear ho hg hb
    by_cases hlt : k < n
    · obtain ⟨b, off, rfl, p0⟩ := HC.out k hlt
      have r0 := (Bl.out.cell (block_lt_of_cell p0)).trans p0
      obtain ⟨x, hx⟩ : ∃ x, x = l.getD k 0 := ⟨_, rfl⟩
      rw [← hx] at r0
      have T : Hid (l.take (k + 1) = l.take k ++ [x]) := Lib.hid (by rw [hx]; exact take_one8 l k (by rw [← NN.out]; exact hlt))
      have L : Hid ((l.take k).length < 140737488355328) := Lib.hid (by rw [List.length_take]; omega)
      obtain ⟨n8, h8⟩ : ∃ n8, n8 = c8 x := ⟨_, rfl⟩
      rw [← h8] at r0
      have E8 := Lib.hid h8
      clear hx p0 h8
      have hlt' : (k : Int) < (n : Int) := by omega
      go_wp2_with (at_builtin; refine app_byte rfl _ _ rfl rfl O.out Bl.out.size _ x E8.out rfl L.out ?_)
      intro v' W' o1 o2 _
      have A : Hid (Own w.heap.size W' v' (l.take (k + 1)) ∧ Below w.heap.size w W') := Lib.hid ⟨by rw [T.out]; exact o1, Bl.out.trans (grown_below o2 O.out Bl.out.size)⟩
      clear o1 o2
      go_wp2_with fail
      go_roundg (n - (k + 1))
      case measure => have := G.out; omega
      case rel => exact ⟨k + 1, by omega, rfl, by go_num, A.out⟩
    · have hge : ¬ (k : Int) < (n : Int) := by omega
      have EK : Hid (l.take k = l) := Lib.hid (List.take_of_length_le (by rw [← NN.out]; omega))
      go_wp2_with fail
      go_ret
      have := O.out
      rw [EK.out] at this
      exact ⟨_, rfl, this, Bl.out⟩
set_option maxHeartbeats 400000 in
theorem sameW_any (v v' : Value) (l m : List UInt8) (w : World) (hv : Bytes w v l) (hv' : Bytes w v' m) :
    Calls Try.prog 21 #[v, v'] w fun e w' => e = .returned (.bool (decide (l = m))) ∧ w' = w := by
  have h1 := convT hv
  have h2 := convT hv'
  go_enter Try.func21, Try.ntmps21
  go_wp2
  go_ret
  exact ⟨congrArg (fun b => Ending.returned (.bool b)) (txt_beq l m), rfl⟩
theorem own_put8 {B : Nat} {w : World} {g n cap : Nat} {c : List UInt8} (h : Own B w (.slice (some ⟨g, 0, none⟩) n cap) c) (q : Nat) (z : UInt8) :
    Own B (w.setCell ⟨g, q, none⟩ (.int .u8 (c8 z))).drew (.slice (some ⟨g, 0, none⟩) n cap) (c.set q z) := by
  have hn : n = c.length := by
    obtain ⟨_, ⟨hv, _⟩ | ⟨g', cap', cur, hv, _⟩⟩ := h
    · simp at hv
    · simp only [Value.slice.injEq] at hv; exact hv.2.1
  subst hn
  have h1 : w.ownsRow B 5 1 (.slice (some ⟨g, 0, none⟩) c.length cap) c.length (cells8 c) := h
  have h2 := (h1.stored q (.int .u8 (c8 z))).1.drew
  have e : (cells8 c).set q (.int .u8 (c8 z)) = cells8 (c.set q z) := by simp [cells8, List.map_set]
  rw [e] at h2
  show World.ownsRow _ _ _ _ _ _ _
  rw [List.length_set]; exact h2
theorem tu_c8 (y : UInt8) (r : Nat) (hr : r < 8) : bits .xor .u8 (c8 y) (2 ^ r % 256) = c8 (tuB y r) := Sm.u8_turn y.toBitVec r hr
end Go.Proofs.Ytbdlebengmbooaa
end S1

section S2
namespace Go.Proofs.Ytbdlebengmbooaa
open Go.RowKit Go.Maps
theorem info_fate : (Try.prog.info? 74).map (fun i => (i.zero, i.size, i.bytes)) = some (some (.agg #[.int .i64 0, .int .i64 0]), 2, 16) := by kernel_rfl
def cellsF (fs : List (Int × Int)) : List Value := fs.flatMap fun x => [.int .i64 x.1, .int .i64 x.2]
theorem cellsF_length (fs : List (Int × Int)) : (cellsF fs).length = fs.length * 2 := by
  induction fs with
  | nil => rfl
  | cons x l ih =>
    have : cellsF (x :: l) = [.int .i64 x.1, .int .i64 x.2] ++ cellsF l := rfl
    rw [this, List.length_append, ih, List.length_cons]
    simp only [List.length_cons, List.length_nil]
    omega
theorem cellsF_at : ∀ (fs : List (Int × Int)) (k i : Nat), k < fs.length → i < 2 → (cellsF fs)[k * 2 + i]? = [Value.int .i64 (fs.getD k (0, 0)).1, .int .i64 (fs.getD k (0, 0)).2][i]?
  | [], k, i, h, _ => by simp at h
  | x :: l, 0, i, _, hi => by
    have : cellsF (x :: l) = [.int .i64 x.1, .int .i64 x.2] ++ cellsF l := rfl
    rw [this, Nat.zero_mul, Nat.zero_add, List.getElem?_append_left (by simpa using hi)]
    rfl
  | x :: l, k + 1, i, h, hi => by
    have : cellsF (x :: l) = [.int .i64 x.1, .int .i64 x.2] ++ cellsF l := rfl
    rw [this, List.getElem?_append_right (by simp only [List.length_cons, List.length_nil]; omega)]
    have e : (k + 1) * 2 + i - [Value.int .i64 x.1, .int .i64 x.2].length = k * 2 + i := by simp only [List.length_cons, List.length_nil]; omega
    rw [e, cellsF_at l k i (by simpa using h) hi]
    rfl
theorem fts_own {B : Nat} {w : World} {v : Value} {fs : List (Int × Int)} (H : w.ownsRow B 74 2 v fs.length (cellsF fs)) : Fts w v fs := by
  obtain ⟨_, ⟨hv, hn⟩ | ⟨g, cap, cur, hv, hb, hg, hn, hm, hs, ht⟩⟩ := H
  · exact ⟨none, 0, by rw [hv, hn], by omega, by decide, fun _ => rfl, fun k hk => by omega⟩
  · refine ⟨_, cap, hv, hn, hm, (fun h => by cases h), fun k hk => ⟨g, 0, rfl, ?_, ?_⟩⟩
    · have := cellsF_at fs k 0 hk (by decide)
      rw [Nat.add_zero] at this
      rw [cell_of_row w g _ cur _ _ hg, Nat.zero_add, ← Array.getElem?_toList, ← List.getElem?_take_of_lt (j := fs.length * 2) (by omega), ht, this]
      rfl
    · have := cellsF_at fs k 1 hk (by decide)
      rw [cell_of_row w g _ cur _ _ hg, Nat.zero_add, ← Array.getElem?_toList, ← List.getElem?_take_of_lt (j := fs.length * 2) (by omega), ht, this]
      rfl
theorem cellsF_app (fs : List (Int × Int)) (x : Int × Int) : cellsF (fs ++ [x]) = cellsF fs ++ [.int .i64 x.1, .int .i64 x.2] := by
  unfold cellsF
  simp [List.flatMap_append]
theorem app_fate {ops : Array Oper} {rest : List Oper} {o : Oper} {a : Act} {Q : Exit → Act → World → Prop} (hgd : o.guard = none) (s x : Operand)
    (ho : o.op = .call { callee := .builtin .append, args := #[s, x], argTypes := #[36, 36] })
    {B : Nat} {w0 : World} {v : Value} {fs : List (Int × Int)} (hs : a.eval s = v) (hown : w0.ownsRow B 74 2 v fs.length (cellsF fs)) (hB : B ≤ w0.heap.size) (p q : Int)
    (hx : a.eval x = .slice (some ⟨w0.heap.size, 0, none⟩) 1 1) (hl : fs.length ≤ 8796093022200)
    (h : ∀ v' w', Hid (w'.ownsRow B 74 2 v' (fs.length + 1) (cellsF (fs ++ [(p, q)])) ∧ w0.grownBy w' v.ownBlock) → wpList Try.prog ops Q rest (a.put o.dst v') w') :
    wpList Try.prog ops Q (o :: rest) a (w0.alloc (.cells #[.int .i64 p, .int .i64 q] 74)) := by
  obtain ⟨i0, hi, hz0, hz1, hz2⟩ := info_parts info_fate
  refine wpList_append_own_at _ hgd s x 36 ho B 74 i0 _ 2 16 Try.underlying36 hi hz0 hz1 hz2 rfl (by decide) v fs.length (cellsF fs) hs (World.ownsRow.alloc hown _) ⟨w0.heap.size, 0, none⟩ 1 1 [.int .i64 p, .int .i64 q] hx rfl ?_ ?_ (by unfold maxLen; omega) (by omega) (by simp; omega) ?_
  · intro j u hj
    rw [add_plain, Nat.zero_add, World.cell?_alloc_new, ← Array.getElem?_toList]; exact hj
  · intro u hu
    simp only [List.mem_cons, List.not_mem_nil, or_false] at hu
    rcases hu with rfl | rfl <;> rfl
  · intro v' w' h1 h2 _ _
    refine h v' w' (Lib.hid ⟨?_, grown_alloc h2⟩)
    rw [cellsF_app]; exact h1
set_option maxRecDepth 100000 in
set_option maxHeartbeats 2000000 in
theorem ownFates_any (v : Value) (fs : List (Int × Int)) (w : World) (hv : Fts w v fs) (hl : fs.length ≤ 8796093022199) :
    Calls Try.prog 12 #[v] w fun e w' => ∃ v', e = .returned v' ∧ w'.ownsRow w.heap.size 74 2 v' fs.length (cellsF fs) ∧ Below w.heap.size w w' := by
  obtain ⟨a, cap, rfl, hlc, hcm, _, hc⟩ := hv
  unfold maxLen at hcm
  obtain ⟨n, hn⟩ : ∃ n, n = fs.length := ⟨_, rfl⟩
  have HC : Hid (∀ k, k < n → ∃ b off, a = some ⟨b, off, none⟩ ∧ w.cell? ⟨b, off + k * 2, none⟩ = some (.int .i64 (fs.getD k (0, 0)).1) ∧ w.cell? ⟨b, off + k * 2 + 1, none⟩ = some (.int .i64 (fs.getD k (0, 0)).2)) := Lib.hid (by rw [hn]; exact hc)
  rw [← hn] at hlc hl ⊢
  have NN := Lib.hid hn
  clear hn hc
  go_enter Try.func12, Try.ntmps12
  go_wp2_with fail
  go_loopg [3, 4] n (fun g sv si wr => ∃ (k : Nat), k ≤ n ∧ g = n - k ∧ si = .int .i64 k ∧ wr.ownsRow w.heap.size 74 2 sv (fs.take k).length (cellsF (fs.take k)) ∧ Below w.heap.size w wr)
  case atStart => exact ⟨0, Nat.zero_le _, rfl, rfl, World.ownsRow_nil _ _ _ _, Below.refl _ _⟩
  case round =>
    obtain ⟨k, hk, hg, rfl, ho, hb⟩ := hrel
    have R := Lib.hid (And.intro hg (And.intro ho hb))
    clear hg ho hb
    by_cases hlt : k < n
    · have hlt' : (k : Int) < (n : Int) := by omega
      obtain ⟨b, off, rfl, d0, d1⟩ := HC.out k hlt
      obtain ⟨f1, hf1⟩ : ∃ f, f = (fs.getD k (0, 0)).1 := ⟨_, rfl⟩
      obtain ⟨f2, hf2⟩ : ∃ f, f = (fs.getD k (0, 0)).2 := ⟨_, rfl⟩
      rw [← hf1] at d0
      rw [← hf2] at d1
      have TK : Hid (fs.take (k + 1) = fs.take k ++ [(f1, f2)]) := Lib.hid (by
        rw [List.take_add_one, List.getElem?_eq_getElem (by rw [← NN.out]; exact hlt), Option.toList_some, hf1, hf2, List.getD_eq_getElem?_getD, List.getElem?_eq_getElem (by rw [← NN.out]; exact hlt), Option.getD_some])
      have c0 : wr.cell? ⟨b, off + k * 2, none⟩ = some (.int .i64 f1) := by rw [R.out.2.2.cell (block_lt_of_cell d0)]; exact d0
      have c1 : wr.cell? ⟨b, off + k * 2 + 1, none⟩ = some (.int .i64 f2) := by rw [R.out.2.2.cell (block_lt_of_cell d1)]; exact d1
      have TL : Hid ((fs.take k).length ≤ 8796093022200) := Lib.hid (by rw [List.length_take]; omega)
      obtain ⟨ts, hts⟩ : ∃ ts, ts = fs.take k := ⟨_, rfl⟩
      rw [← hts] at R TK TL
      clear d0 d1 hf1 hf2 hts
      go_wp2_with (at_builtin; refine app_fate rfl (.tmp 11) (.tmp 16) rfl (B := w.heap.size) (fs := ts) rfl R.out.2.1 R.out.2.2.size f1 f2 rfl TL.out ?_)
      intro v' w' h1
      have R2 : Hid (w'.ownsRow w.heap.size 74 2 v' (fs.take (k + 1)).length (cellsF (fs.take (k + 1))) ∧ Below w.heap.size w w') := Lib.hid ⟨by rw [TK.out, List.length_append]; exact h1.out.1, R.out.2.2.trans ((Below.refl _ _).grown h1.out.2 R.out.2.2.size (fun z hz => (R.out.2.1.lt z hz).1))⟩
      clear h1 c0 c1
      go_wp2_with fail
      go_roundg (n - (k + 1))
      case measure => have := R.out.1; omega
      case rel => exact ⟨k + 1, by omega, rfl, by go_num, R2.out.1, R2.out.2⟩
    · have ek : k = n := by omega
      subst ek
      go_wp2_with fail
      go_ret
      refine ⟨_, rfl, ?_, R.out.2.2⟩
      have := R.out.2.1
      rw [NN.out, List.take_length] at this
      rw [NN.out]
      exact this
end Go.Proofs.Ytbdlebengmbooaa
end S2

section S3
namespace Go.Proofs.Ytbdlebengmbooaa
open Go.RowKit Go.Maps Go.Sort
set_option maxRecDepth 100000 in
set_option maxHeartbeats 1000000 in
theorem first_any (w : World) : Calls Try.prog 24 #[] w fun e w' => e = .returned (.agg #[.int .i64 1, .int .i64 1, .int .i64 64, .int .i64 8, .int .i64 1, .int .i64 0, .int .i64 0, .int .i64 0, .int .i64 0]) ∧ Below w.heap.size w w' := by
  go_enter Try.func24, Try.ntmps24
  go_wp2_with fail
  refine bodyPost_ret (results_cell_row rfl _ _ w.heap.size 34 #[.int .i64 1, .int .i64 1, .int .i64 64, .int .i64 8, .int .i64 1, .int .i64 0, .int .i64 0, .int .i64 0, .int .i64 0] (0, 0) _ rfl ?_ Try.underlying34 rfl size_super) rfl ⟨rfl, ?_⟩
  · exact heap_alloc_new _ _
  · exact (Below.refl _ _).alloc (Nat.le_refl _) _
set_option maxRecDepth 100000 in
set_option maxHeartbeats 8000000 in
theorem fixed_any (w : World) : Calls Try.prog 4 #[] w fun e w' => e = .returned (.bool true) ∧ Below w.heap.size w w' := by
  obtain ⟨b, hb⟩ : ∃ b, b = w.heap.size := ⟨_, rfl⟩
  have NW := Lib.hid (new_ok 64 w (by decide) (by decide))
  obtain ⟨z, hz⟩ : ∃ z : List UInt8, z = List.replicate (512 * 64) 0 := ⟨_, rfl⟩
  have ZM : Hid (Zm z) := Lib.hid (by rw [hz]; exact zm_zs)
  rw [← hz, ← hb] at NW
  have HB := Lib.hid hb
  clear hz hb
  go_enter Try.func4, Try.ntmps4
  go_wp2_with fail
  refine NW.out.mono ?_
  rintro e w1 ⟨rfl, b1, d1⟩
  have RD := Lib.hid (read_up d1 rfl)
  rw [fx0_read ZM.out] at RD
  have D1 := Lib.hid (And.intro b1 (d1.foot_lt b (Or.inr (Or.inl rfl))))
  clear b1 d1 NW
  go_wp2_with fail
  refine RD.out.mono ?_
  rintro e w2 ⟨rfl, d2, k2⟩
  have D2 := Lib.hid (And.intro d2 k2)
  clear d2 k2 RD
  have ZA : zeroS.arr = #[.int .i64 0, .int .i64 0, .int .i64 0, .int .i64 0, .int .i64 0, .int .i64 0, .int .i64 0, .int .i64 0, .int .i64 0] := rfl
  rw [ZA]
  clear ZA
  go_wp2_with fail
  refine (first_any _).mono ?_
  rintro e w3 ⟨rfl, b3⟩
  have B3 : Hid (Below w2.heap.size w2 w3) := Lib.hid (((Below.refl _ _).alloc (Nat.le_refl _) _).trans (b3.mono (by simp)))
  clear b3
  have WR := Lib.hid (write_a (D2.out.1.below B3.out) firstS (show 0 < 4611686018427387904 by decide) (show 0 < 137438953471 by decide))
  rw [fx0_write z] at WR
  simp only at WR
  have FA : firstS.arr = #[.int .i64 1, .int .i64 1, .int .i64 64, .int .i64 8, .int .i64 1, .int .i64 0, .int .i64 0, .int .i64 0, .int .i64 0] := rfl
  rw [FA] at WR
  go_wp2_with fail
  refine WR.out.mono ?_
  rintro e w4 ⟨cv4, rfl, d4, k4, a4⟩
  have RD := Lib.hid (read_up d4 rfl)
  rw [fx1_read ZM.out] at RD
  simp only at RD
  rw [FA] at RD
  have D4 := Lib.hid (And.intro k4 a4)
  clear d4 k4 a4 WR
  go_wp2_with fail
  refine RD.out.mono ?_
  rintro e w5 ⟨rfl, d5, k5⟩
  have K5 := Lib.hid k5
  clear d5 k5 RD
  obtain ⟨g7, hg7⟩ : ∃ g, g = w5.heap.size := ⟨_, rfl⟩
  have hg7' := hg7.symm
  have HG7 := Lib.hid hg7
  clear hg7
  go_wp2_with fail
  refine (first_any _).mono ?_
  rintro e w6 ⟨rfl, b6⟩
  have B6 : Hid (Below w5.heap.size w5 w6 ∧ w6.heap[g7]? = some (.cells firstS.arr 34 (0, 0))) := Lib.hid ⟨((Below.refl _ _).alloc (Nat.le_refl _) _).trans (b6.mono (by simp)), by rw [HG7.out, b6.block _ (by simp)]; exact heap_alloc_new _ _⟩
  have EN := Lib.hid (enc_yes firstS w6 first_va)
  rw [FA] at EN
  clear b6 hg7'
  go_wp2_with fail
  refine EN.out.mono ?_
  rintro e w7 ⟨gb, rfl, o7, b7⟩
  have B7 : Hid (Below w5.heap.size w5 w7) := Lib.hid (B6.out.1.trans (b7.mono B6.out.1.size))
  have G7 : w7.heap[g7]? = some (.cells firstS.arr 34 (0, 0)) := by rw [b7.block g7 (lt_of_heap B6.out.2)]; exact B6.out.2
  obtain ⟨y0, y1, y2, y3, y4, y5, y6, y7, y8⟩ := sup_cells G7
  unfold firstS at y0 y1 y2 y3 y4 y5 y6 y7 y8
  simp only at y0 y1 y2 y3 y4 y5 y6 y7 y8
  have r0 : ∀ (dq : Nat) (os : Array Obj), (grow (redrawn w7 dq) os).cell? ⟨g7, 0, none⟩ = some (.int .i64 1) := fun dq os => cell_regrown y0 dq os
  have r1 : ∀ (dq : Nat) (os : Array Obj), (grow (redrawn w7 dq) os).cell? ⟨g7, 1, none⟩ = some (.int .i64 1) := fun dq os => cell_regrown y1 dq os
  have r2 : ∀ (dq : Nat) (os : Array Obj), (grow (redrawn w7 dq) os).cell? ⟨g7, 2, none⟩ = some (.int .i64 64) := fun dq os => cell_regrown y2 dq os
  have r3 : ∀ (dq : Nat) (os : Array Obj), (grow (redrawn w7 dq) os).cell? ⟨g7, 3, none⟩ = some (.int .i64 8) := fun dq os => cell_regrown y3 dq os
  have r4 : ∀ (dq : Nat) (os : Array Obj), (grow (redrawn w7 dq) os).cell? ⟨g7, 4, none⟩ = some (.int .i64 1) := fun dq os => cell_regrown y4 dq os
  have r5 : ∀ (dq : Nat) (os : Array Obj), (grow (redrawn w7 dq) os).cell? ⟨g7, 5, none⟩ = some (.int .i64 0) := fun dq os => cell_regrown y5 dq os
  have r6 : ∀ (dq : Nat) (os : Array Obj), (grow (redrawn w7 dq) os).cell? ⟨g7, 6, none⟩ = some (.int .i64 0) := fun dq os => cell_regrown y6 dq os
  have r7 : ∀ (dq : Nat) (os : Array Obj), (grow (redrawn w7 dq) os).cell? ⟨g7, 7, none⟩ = some (.int .i64 0) := fun dq os => cell_regrown y7 dq os
  have r8 : ∀ (dq : Nat) (os : Array Obj), (grow (redrawn w7 dq) os).cell? ⟨g7, 8, none⟩ = some (.int .i64 0) := fun dq os => cell_regrown y8 dq os
  have xB : Hid (∀ (dq : Nat) (os : Array Obj), Below w7.heap.size w7 (grow (redrawn w7 dq) os)) := fun dq os => below_regrown w7 dq os
  have qF : Hid (∀ (dq : Nat) (os : Array Obj), Calls Try.prog 24 #[] (grow (redrawn w7 dq) os) fun e w'' => e = .returned (.agg #[.int .i64 1, .int .i64 1, .int .i64 64, .int .i64 8, .int .i64 1, .int .i64 0, .int .i64 0, .int .i64 0, .int .i64 0]) ∧ ∃ p : Regrown, w'' = grow (redrawn w7 p.d) p.os) := fun dq os => Calls.regrown_of (first_any _)
  have cvt : ∀ (dq : Nat) (os : Array Obj), (convert 35 9 (.slice (some ⟨gb, 0, none⟩) 9 512)).run Try.prog (grow (redrawn w7 dq) os) = .ok (.string ⟨#[66, 83, 65, 82, 1, 0, 0, 0, 1]⟩) (grow (redrawn w7 dq) os) := fun dq os => by
    have hb := (o7.bytes).below (xB.out dq os)
    have hb' : Bytes (grow (redrawn w7 dq) os) (.slice (some ⟨gb, 0, none⟩) (layA firstS).length 512) (layA firstS) := by rw [layA_length]; exact hb
    have ht := hb'.take 9 (by rw [layA_length]; decide)
    have e9 : (layA firstS).take 9 = [66, 83, 65, 82, 1, 0, 0, 0, 1] := by have := first_nine; rwa [List.drop_zero] at this
    rw [e9] at ht
    exact convT ht
  clear o7 b7 EN G7 FA y0 y1 y2 y3 y4 y5 y6 y7 y8
  go_wp2_with fail
  refine wp_region_quiet_below (by kernel_rfl) (by kernel_rfl) ?_
  repeat (go_big_quiet_step (first | with_reducible exact qF.out _ _))
  refine wpQuiet_nil ?_
  intro _ hw'
  obtain ⟨⟨dq, osq⟩, hw''⟩ := hw'
  subst hw''
  go_wp2_with fail
  go_ret
  refine ⟨rfl, ?_⟩
  have t1 : b ≤ w1.heap.size := by rw [HB.out]; exact D1.out.1.size
  have q2 : Below b w1 w2 := D2.out.2.below t1 (fun x hx => by omega)
  have t2 : b ≤ w2.heap.size := Nat.le_trans t1 q2.size
  have q3 : Below b w2 w3 := B3.out.mono t2
  have t3 : b ≤ w3.heap.size := Nat.le_trans t2 q3.size
  have q4 : Below b w3 w4 := D4.out.1.below t3 (fun x hx => ((D2.out.1.below B3.out).foot_lt x hx).1)
  have t4 : b ≤ w4.heap.size := Nat.le_trans t3 q4.size
  have q5 : Below b w4 w5 := K5.out.below t4 (fun x hx => by omega)
  have t5 : b ≤ w5.heap.size := Nat.le_trans t4 q5.size
  have q7 : Below b w5 w7 := B7.out.mono t5
  have t7 : b ≤ w7.heap.size := Nat.le_trans t5 q7.size
  have q8 := (xB.out dq osq).mono t7
  rw [← HB.out]
  have q1 : Below b w w1 := D1.out.1
  exact (((((q1.trans q2).trans q3).trans q4).trans q5).trans q7).trans q8
end Go.Proofs.Ytbdlebengmbooaa
end S3
