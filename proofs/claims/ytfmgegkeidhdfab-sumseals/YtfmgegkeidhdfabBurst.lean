/-
  PLAIN MATHEMATICS of bursts.
-/
import Derived.Test.YtfmgegkeidhdfabWalk8
namespace Go.Proofs.Ytfmgegkeidhdfab

theorem sh_ker (x : BitVec 32) (h : sh x = 0#32) : x = 0#32 := by
  unfold sh at h
  cases hx : x.getLsbD 0
  · rw [hx, if_neg (by simp)] at h
    apply BitVec.eq_of_getLsbD_eq; intro i hi
    by_cases q : i = 0
    · subst q; rw [hx]; simp
    · have := congrArg (fun y => y.getLsbD (i - 1)) h
      simp only [BitVec.getLsbD_ushiftRight] at this
      rw [show 1 + (i - 1) = i by omega] at this
      rw [this]; simp
  · rw [hx, if_pos rfl] at h
    have := congrArg (fun y => y.getLsbD 31) h
    simp only [BitVec.getLsbD_xor, BitVec.getLsbD_ushiftRight] at this
    rw [BitVec.getLsbD_of_ge x (1 + 31) (by omega)] at this
    simp at this
theorem shN_ker (n : Nat) (x : BitVec 32) (h : shN n x = 0#32) : x = 0#32 := by
  induction n generalizing x with
  | zero => exact h
  | succ n ih => exact sh_ker x (ih (sh x) h)
theorem shN_inj (n : Nat) {x y : BitVec 32} (h : shN n x = shN n y) : x = y := by
  have e : shN n (x ^^^ y) = 0#32 := by rw [shN_xor, h, BitVec.xor_self]
  have := shN_ker n _ e
  exact BitVec.xor_eq_zero_iff.1 this
theorem by1_xor (y d : BitVec 32) (c : BitVec 8) : by1 (y ^^^ d) c = by1 y c ^^^ shN 8 d := by
  unfold by1; rw [← shN_xor]; congr 1; rw [BitVec.xor_assoc, BitVec.xor_assoc, BitVec.xor_comm d]
theorem over_xor (l : List (BitVec 8)) (y d : BitVec 32) : over (y ^^^ d) l = over y l ^^^ shN (8 * l.length) d := by
  induction l generalizing y d with
  | nil => rfl
  | cons c l ih =>
    show over (by1 (y ^^^ d) c) l = over (by1 y c) l ^^^ _
    rw [by1_xor, ih, shN_add, List.length_cons]; congr 2; omega
theorem shN_bit (j n : Nat) (hj : j < 32) : shN (j + n) (1#32 <<< j) = shN n 1#32 := by
  induction j with
  | zero => simp
  | succ j ih => rw [Nat.succ_add, shN, sh_pow j (by omega)]; exact ih (by omega)
theorem ze_bit (j : Nat) (hj : j < 8) : (1#8 <<< j).zeroExtend 32 = 1#32 <<< j := by
  have key : ∀ j : Fin 8, (1#8 <<< j.val).zeroExtend 32 = 1#32 <<< j.val := by decide
  exact key ⟨j, hj⟩
theorem ze_xor (a b : BitVec 8) : (a ^^^ b).zeroExtend 32 = a.zeroExtend 32 ^^^ b.zeroExtend 32 := by
  apply BitVec.eq_of_getLsbD_eq; intro i hi
  simp [hi]
/-- A bit turned over. -/
theorem flip (l : List (BitVec 8)) (i j : Nat) (x : BitVec 32) (hi : i < l.length) (hj : j < 8) :
    over x (l.set i (l.getD i 0#8 ^^^ 1#8 <<< j)) = over x l ^^^ shN (8 * l.length - (8 * i + j)) 1#32 := by
  have e : l = l.take i ++ l.getD i 0#8 :: l.drop (i + 1) := by
    conv => lhs; rw [← List.take_append_drop i l]
    rw [List.drop_eq_getElem_cons hi]; simp [hi]
  have e2 : l.set i (l.getD i 0#8 ^^^ 1#8 <<< j) = l.take i ++ (l.getD i 0#8 ^^^ 1#8 <<< j) :: l.drop (i + 1) := by
    rw [List.set_eq_take_append_cons_drop, if_pos hi]
  rw [e2]
  conv => rhs; lhs; rw [e]
  rw [over_app, over_app]
  generalize over x (l.take i) = y
  show over (by1 y _) _ = over (by1 y _) _ ^^^ _
  have e3 : by1 y (l.getD i 0#8 ^^^ 1#8 <<< j) = by1 y (l.getD i 0#8) ^^^ shN 8 (1#32 <<< j) := by
    unfold by1; rw [ze_xor, ze_bit j hj, ← BitVec.xor_assoc, shN_xor]
  rw [e3, over_xor, shN_add]
  congr 1
  rw [List.length_drop]
  have e4 : 8 + 8 * (l.length - (i + 1)) = j + (8 * l.length - (8 * i + j)) := by omega
  rw [e4, shN_bit j _ (by omega)]
theorem shN_up (k : Nat) (v : BitVec 32) (hk : k ≤ 32) (h : ∀ i, 32 - k ≤ i → v.getLsbD i = false) : shN k (v <<< k) = v := by
  induction k with
  | zero => simp [shN]
  | succ k ih =>
    rw [shN, BitVec.shiftLeft_add, sh_even _ (by rw [BitVec.getLsbD_shiftLeft, h (31 - k) (by omega)]; simp)]
    exact ih (by omega) (fun i hi => h i (by omega))
theorem shN_byte (k n : Nat) (c : BitVec 8) (hk : k ≤ 24) : shN (k + n) (c.zeroExtend 32 <<< k) = shN n (c.zeroExtend 32) := by
  rw [← shN_add n k, shN_up k _ (by omega) (fun i hi => by rw [BitVec.getLsbD_setWidth, BitVec.getLsbD_of_ge c i (by omega)]; simp)]
theorem four (r : BitVec 32) : (r.setWidth 8).zeroExtend 32 ^^^ ((r >>> 8).setWidth 8).zeroExtend 32 <<< 8 ^^^ ((r >>> 16).setWidth 8).zeroExtend 32 <<< 16 ^^^ ((r >>> 24).setWidth 8).zeroExtend 32 <<< 24 = r := by
  apply BitVec.eq_of_getLsbD_eq; intro i hi
  simp only [BitVec.getLsbD_xor, BitVec.getLsbD_setWidth, BitVec.getLsbD_shiftLeft, BitVec.getLsbD_ushiftRight]
  rcases (by omega : i < 8 ∨ (8 ≤ i ∧ i < 16) ∨ (16 ≤ i ∧ i < 24) ∨ 24 ≤ i) with q | ⟨q1, q2⟩ | ⟨q1, q2⟩ | q
  · have a1 : i < 16 := by omega
    have a2 : i < 24 := by omega
    simp [q, a1, a2, hi]
  · have a1 : ¬ i < 8 := by omega
    have a2 : i < 24 := by omega
    have a3 : i - 8 < 8 := by omega
    have a4 : i - 8 < 32 := by omega
    have a5 : 8 + (i - 8) = i := by omega
    simp [a1, a2, a3, a4, a5, q2, hi]
  · have a1 : ¬ i < 8 := by omega
    have a2 : ¬ i < 16 := by omega
    have a3 : ¬ i - 8 < 8 := by omega
    have a4 : i - 16 < 8 := by omega
    have a6 : i - 16 < 32 := by omega
    have a5 : 16 + (i - 16) = i := by omega
    simp [a1, a2, a3, a4, a5, a6, q2, hi]
  · have a1 : ¬ i < 8 := by omega
    have a2 : ¬ i < 16 := by omega
    have a7 : ¬ i < 24 := by omega
    have a3 : ¬ i - 8 < 8 := by omega
    have a4 : ¬ i - 16 < 8 := by omega
    have a8 : i - 24 < 8 := by omega
    have a6 : i - 24 < 32 := by omega
    have a5 : 24 + (i - 24) = i := by omega
    simp [a1, a2, a3, a4, a5, a6, a7, a8, hi]
theorem over_one (y : BitVec 32) (c : BitVec 8) (l : List (BitVec 8)) : over y (c :: l) = over 0#32 l ^^^ shN (8 + 8 * l.length) (y ^^^ c.zeroExtend 32) := by
  show over (by1 y c) l = _
  have e : by1 y c = 0#32 ^^^ shN 8 (y ^^^ c.zeroExtend 32) := by rw [BitVec.zero_xor]; rfl
  rw [e, over_xor, shN_add]
/-- Four bytes at once. -/
theorem over_le4 (y r : BitVec 32) : over y (le4 r) = shN 32 (y ^^^ r) := by
  have h0 := over_one y (r.setWidth 8) [(r >>> 8).setWidth 8, (r >>> 16).setWidth 8, (r >>> 24).setWidth 8]
  have h1 := over_one 0#32 ((r >>> 8).setWidth 8) [(r >>> 16).setWidth 8, (r >>> 24).setWidth 8]
  have h2 := over_one 0#32 ((r >>> 16).setWidth 8) [(r >>> 24).setWidth 8]
  have h3 := over_one 0#32 ((r >>> 24).setWidth 8) []
  simp only [List.length_cons, List.length_nil, BitVec.zero_xor] at h0 h1 h2 h3
  have e : over 0#32 [] = 0#32 := rfl
  rw [e] at h3
  rw [h3] at h2; rw [h2] at h1; rw [h1] at h0
  unfold le4; rw [h0]
  have f := four r
  conv => rhs; rw [← f]
  have g1 := shN_byte 8 24 ((r >>> 8).setWidth 8) (by omega)
  have g2 := shN_byte 16 16 ((r >>> 16).setWidth 8) (by omega)
  have g3 := shN_byte 24 8 ((r >>> 24).setWidth 8) (by omega)
  rw [show (8 : Nat) + 24 = 32 from rfl] at g1
  rw [show (16 : Nat) + 16 = 32 from rfl] at g2
  rw [show (24 : Nat) + 8 = 32 from rfl] at g3
  simp only [shN_xor, g1, g2, g3, BitVec.zero_xor]
  simp only [show 8 + 8 * (0 + 1 + 1 + 1) = 32 from rfl, show 8 + 8 * (0 + 1 + 1) = 24 from rfl, show 8 + 8 * (0 + 1) = 16 from rfl, show 8 + 8 * 0 = 8 from rfl]
  ac_rfl
theorem le4_inj {a b : BitVec 32} (h : le4 a = le4 b) : a = b := by
  unfold le4 at h
  simp only [List.cons.injEq, and_true] at h
  obtain ⟨e0, e1, e2, e3⟩ := h
  rw [← four a, ← four b, e0, e1, e2, e3]
theorem le4_onto (c0 c1 c2 c3 : BitVec 8) : ∃ r, le4 r = [c0, c1, c2, c3] := by
  have b0 := c8_lo c0
  have b1 := c8_lo c1
  have b2 := c8_lo c2
  have b3 := c8_lo c3
  have d0 := c8_hi c0
  have d1 := c8_hi c1
  have d2 := c8_hi c2
  have d3 := c8_hi c3
  obtain ⟨r, hr⟩ := u_of (c8 c0 + c8 c1 * 256 + c8 c2 * 65536 + c8 c3 * 16777216) (by omega) (by omega)
  exact ⟨r, (le4_iff r c0 c1 c2 c3).2 hr.symm⟩
/-- A sealed string is one whose word behind all its bytes is a certain one. -/
theorem sealed_over (l : List (BitVec 8)) (n : Nat) (h : l.length = n + 4) : isSealed l ↔ over (~~~ 0#32) l = shN 32 (BitVec.allOnes 32) := by
  rw [← isSealed_iff l n h]
  obtain ⟨r, hr⟩ := le4_onto (l.getD n 0#8) (l.getD (n + 1) 0#8) (l.getD (n + 2) 0#8) (l.getD (n + 3) 0#8)
  rw [← hr]
  conv => rhs; rw [last_four l n h, ← hr, over_app, over_le4]
  constructor
  · intro q
    have := le4_inj q
    rw [← this]; unfold upd
    congr 1
    generalize over (~~~ 0#32) (l.take n) = R
    rw [← BitVec.xor_allOnes, ← BitVec.xor_assoc, BitVec.xor_self, BitVec.zero_xor]
  · intro q
    have := shN_inj 32 q
    congr 1
    unfold upd
    have e : r = over (~~~ 0#32) (l.take n) ^^^ BitVec.allOnes 32 := by rw [← this, ← BitVec.xor_assoc, BitVec.xor_self, BitVec.zero_xor]
    rw [e, BitVec.xor_allOnes]
/-- What a burst leaves: the bytes c in the place of l. -/
def Burst (l c : List (BitVec 8)) : Prop := c.length = l.length ∧ ∃ (m : BitVec 32) (k : Nat), (m = 0#32 → c = l) ∧ ∀ x, over x c = over x l ^^^ shN k m
theorem Burst.ne {l c : List (BitVec 8)} (h : Burst l c) (hn : ¬ c = l) (x : BitVec 32) : ¬ over x c = over x l := by
  obtain ⟨_, m, k, h0, h1⟩ := h
  intro q
  rw [h1 x] at q
  have e : shN k m = 0#32 := by
    have := congrArg (fun y => over x l ^^^ y) q
    simp only [← BitVec.xor_assoc, BitVec.xor_self, BitVec.zero_xor] at this
    exact this
  exact hn (h0 (shN_ker k m e))
theorem Burst.opened {l c : List (BitVec 8)} (h : Burst l c) (hn : ¬ c = l) (hs : isSealed l) (h4 : 4 ≤ l.length) : ¬ isSealed c := by
  obtain ⟨n, e⟩ : ∃ n, l.length = n + 4 := ⟨l.length - 4, by omega⟩
  have e' : c.length = n + 4 := by rw [h.1]; exact e
  intro q
  rw [sealed_over c n e'] at q
  rw [sealed_over l n e] at hs
  exact h.ne hn _ (by rw [q, hs])
theorem Burst.upd {l c : List (BitVec 8)} (h : Burst l c) (hn : ¬ c = l) : ¬ upd 0#32 c = upd 0#32 l := by
  intro q
  unfold Go.Proofs.Ytfmgegkeidhdfab.upd at q
  have := congrArg (fun y => ~~~ y) q
  simp only [BitVec.not_not] at this
  exact h.ne hn _ this
theorem isSealed_sealed (l : List (BitVec 8)) : isSealed (sealed l) := by
  unfold isSealed; rw [seal_length, Nat.add_sub_cancel]
  have : (sealed l).take l.length = l := by simp [sealed]
  rw [this]
end Go.Proofs.Ytfmgegkeidhdfab
