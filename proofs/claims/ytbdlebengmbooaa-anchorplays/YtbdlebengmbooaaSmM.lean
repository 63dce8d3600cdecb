/-
  PLAIN MATHEMATICS for package sum: words of 32 bits as polynomials; nothing of the dump.
-/
import Derived.WalkKit
import Derived.Laws.BitsAllLaws
namespace Go.Proofs.Ytbdlebengmbooaa.Sm

/-- A words number. -/
def u (x : BitVec 32) : Int := (x.toNat : Int)
theorem u_lo (x : BitVec 32) : 0 ≤ u x := by unfold u; omega
theorem u_hi (x : BitVec 32) : u x < 4294967296 := by unfold u; have := x.isLt; omega
theorem u_inj {x y : BitVec 32} (h : u x = u y) : x = y := by
  unfold u at h; exact BitVec.eq_of_toNat_eq (by omega)
theorem u_of (a : Int) (h0 : 0 ≤ a) (h1 : a < 4294967296) : ∃ x, a = u x := by
  refine ⟨BitVec.ofNat 32 a.toNat, ?_⟩
  unfold u; rw [BitVec.toNat_ofNat, Nat.mod_eq_of_lt (by omega)]; omega
theorem u_beq (x y : BitVec 32) : (u x == u y) = (x == y) := by
  by_cases h : x = y
  · subst h; simp
  · have : u x ≠ u y := fun e => h (u_inj e)
    rw [beq_eq_false_iff_ne.mpr this, beq_eq_false_iff_ne.mpr h]
theorem bits_xor_u (x y : BitVec 32) : bits .xor .u32 (u x) (u y) = u (x ^^^ y) := by
  unfold u; rw [u32_xor_nat _ _ x.isLt y.isLt, BitVec.toNat_xor]
theorem bits_and_u (x y : BitVec 32) : bits .and .u32 (u x) (u y) = u (x &&& y) := by
  unfold u; rw [u32_and_nat _ _ x.isLt y.isLt, BitVec.toNat_and]
theorem bits_or_u (x y : BitVec 32) : bits .or .u32 (u x) (u y) = u (x ||| y) := by
  unfold u; rw [u32_or_nat _ _ x.isLt y.isLt, BitVec.toNat_or]
theorem shr_u (x : BitVec 32) (k : Nat) : u x / 2 ^ k = u (x >>> k) := by
  unfold u; rw [BitVec.toNat_ushiftRight, Nat.shiftRight_eq_div_pow]; simp
theorem shl_u (x : BitVec 32) (k : Nat) : (u x * 2 ^ k) % 4294967296 = u (x <<< k) := by
  unfold u; rw [BitVec.toNat_shiftLeft, Nat.shiftLeft_eq]; simp

theorem u_half (x : BitVec 32) : u x / (2 : Int) = u (x >>> 1) := by have := shr_u x 1; simpa using this
theorem u_over (x : BitVec 32) : bits .xor .u32 (u x / 2) 2197175160 = u (x >>> 1 ^^^ 0x82F63B78#32) := by
  rw [u_half]; exact bits_xor_u _ 0x82F63B78#32
theorem u_bit (x : BitVec 32) (i : Nat) (m : BitVec 32) (hm : m = BitVec.twoPow 32 i) (hi : (BitVec.twoPow 32 i == 0#32) = false) : (bits .and .u32 (u x) (u m) != 0) = x.getLsbD i := by
  have e : u 0#32 = 0 := rfl
  rw [bits_and_u, ← e, bne, u_beq, hm, BitVec.and_twoPow]
  cases x.getLsbD i
  · rfl
  · rw [if_pos rfl, hi]; rfl
theorem u_and1 (x : BitVec 32) : (bits .and .u32 (u x) 1 != 0) = x.getLsbD 0 := u_bit x 0 1#32 (by decide) (by decide)
theorem u_and31 (x : BitVec 32) : (bits .and .u32 (u x) 2147483648 != 0) = x.getLsbD 31 := u_bit x 31 0x80000000#32 (by decide) (by decide)
theorem u_ne0 (x : BitVec 32) : (u x != 0) = (x != 0#32) := by
  have e : u 0#32 = 0 := rfl
  rw [← e, bne, u_beq]; rfl
theorem u_dbl (x : BitVec 32) : u x * (2 : Int) % (4294967296 : Int) = u (x <<< 1) := by have := shl_u x 1; simpa using this
/-- One place. -/
def sh (x : BitVec 32) : BitVec 32 := if x.getLsbD 0 then x >>> 1 ^^^ 0x82F63B78#32 else x >>> 1
theorem sh_xor (x y : BitVec 32) : sh (x ^^^ y) = sh x ^^^ sh y := by
  unfold sh
  rw [BitVec.getLsbD_xor, BitVec.ushiftRight_xor_distrib]
  cases x.getLsbD 0 <;> cases y.getLsbD 0 <;> simp
  · rw [BitVec.xor_assoc]
  · rw [BitVec.xor_assoc, BitVec.xor_assoc]; congr 1; exact BitVec.xor_comm _ _
  · rw [BitVec.xor_assoc, BitVec.xor_comm _ (y >>> 1 ^^^ _), BitVec.xor_assoc, BitVec.xor_self]; simp
theorem sh_zero : sh 0#32 = 0#32 := by decide
/-- n places. -/
def shN : Nat → BitVec 32 → BitVec 32
  | 0, x => x
  | n + 1, x => shN n (sh x)
theorem shN_xor (n : Nat) (x y : BitVec 32) : shN n (x ^^^ y) = shN n x ^^^ shN n y := by
  induction n generalizing x y with
  | zero => rfl
  | succ n ih => simp only [shN]; rw [sh_xor, ih]
theorem shN_zero (n : Nat) : shN n 0#32 = 0#32 := by
  induction n with
  | zero => rfl
  | succ n ih => simp only [shN]; rw [sh_zero, ih]
theorem shN_add (m n : Nat) (x : BitVec 32) : shN m (shN n x) = shN (n + m) x := by
  induction n generalizing x with
  | zero => simp [shN]
  | succ n ih => rw [Nat.succ_add]; simp only [shN]; exact ih _
theorem shN_succ' (n : Nat) (x : BitVec 32) : shN (n + 1) x = sh (shN n x) := by
  rw [← shN_add 1 n x]; rfl

/-- The product, n rounds of it. -/
def tmN : Nat → BitVec 32 → BitVec 32 → BitVec 32
  | 0, _, _ => 0#32
  | n + 1, a, b => (if a.getLsbD 31 then b else 0#32) ^^^ tmN n (a <<< 1) (sh b)
theorem tmN_zero (n : Nat) (b : BitVec 32) : tmN n 0#32 b = 0#32 := by
  induction n generalizing b with
  | zero => rfl
  | succ n ih => simp only [tmN]; have e : (0#32 <<< 1) = 0#32 := by decide
                 rw [e, ih]; simp
theorem tmN_sh (n : Nat) (a b : BitVec 32) : tmN n a (sh b) = sh (tmN n a b) := by
  induction n generalizing a b with
  | zero => simp [tmN, sh_zero]
  | succ n ih => simp only [tmN]; rw [sh_xor, ih]; congr 1; split <;> simp [sh_zero]
theorem tmN_shN (k n : Nat) (a b : BitVec 32) : tmN n a (shN k b) = shN k (tmN n a b) := by
  induction k generalizing b with
  | zero => rfl
  | succ k ih => simp only [shN]; rw [ih, tmN_sh]
theorem sh_pow (n : Nat) (h : n < 31) : sh (1#32 <<< (n + 1)) = 1#32 <<< n := by
  have : ∀ n : Fin 31, sh (1#32 <<< (n.val + 1)) = 1#32 <<< n.val := by decide
  exact this ⟨n, h⟩
theorem tmN_one (n m : Nat) (h : m + n = 31) (a : BitVec 32) : tmN (n + 1) a (1#32 <<< n) = a >>> m := by
  induction n generalizing a m with
  | zero =>
    obtain rfl : m = 31 := by omega
    simp only [tmN]
    apply BitVec.eq_of_getLsbD_eq; intro i hi
    rw [BitVec.getLsbD_ushiftRight]
    by_cases hz : i = 0
    · subst hz; cases ha : a.getLsbD 31 <;> simp
    · have h2 : a.getLsbD (31 + i) = false := BitVec.getLsbD_of_ge _ _ (by omega)
      cases ha : a.getLsbD 31 <;> simp [h2, hz]
  | succ n ih =>
    rw [tmN, sh_pow n (by omega), ih (m + 1) (by omega)]
    apply BitVec.eq_of_getLsbD_eq; intro i hi
    have e1 : ((if a.getLsbD 31 then 1#32 <<< (n + 1) else 0#32) : BitVec 32).getLsbD i = (a.getLsbD 31 && decide (i = n + 1)) := by
      cases ha : a.getLsbD 31
      · simp
      · rw [if_pos rfl, BitVec.getLsbD_shiftLeft, BitVec.getLsbD_one]
        by_cases q : i = n + 1
        · subst q; simp [hi]
        · have q2 : ¬ (n + 1 ≤ i ∧ i - (n + 1) = 0) := by omega
          by_cases q3 : i < n + 1
          · simp [q, q3]
          · have : ¬ (i - (n + 1) = 0) := by omega
            simp [q, this]
    rw [BitVec.getLsbD_xor, e1, BitVec.getLsbD_ushiftRight, BitVec.getLsbD_ushiftRight, BitVec.getLsbD_shiftLeft]
    by_cases hin : i = n + 1
    · have e2 : m + i = 31 := by omega
      have e3 : ¬ (m + 1 + i < 32) := by omega
      rw [e2, decide_eq_true hin, decide_eq_false e3]; simp
    · have e4 : m + 1 + i - 1 = m + i := by omega
      rw [e4]
      by_cases hb : m + 1 + i < 32
      · have e5 : ¬ (m + 1 + i < 1) := by omega
        simp [hin, hb]
      · have e6 : a.getLsbD (m + i) = false := BitVec.getLsbD_of_ge _ _ (by omega)
        simp [e6, hin]
theorem tm_yes {k : Nat} {p a b t : BitVec 32} (h : p ^^^ tmN (k + 1) a b = t) (ha : a.getLsbD 31 = true) : (p ^^^ b) ^^^ tmN k (a <<< 1) (sh b) = t := by
  rw [tmN, if_pos ha] at h; rw [BitVec.xor_assoc]; exact h
theorem tm_no {k : Nat} {p a b t : BitVec 32} (h : p ^^^ tmN (k + 1) a b = t) (ha : a.getLsbD 31 = false) : p ^^^ tmN k (a <<< 1) (sh b) = t := by
  rw [tmN, if_neg (by rw [ha]; simp)] at h; simpa using h
theorem tm_left {k : Nat} {a : BitVec 32} (h : a <<< (k + 1) = 0#32) : (a <<< 1) <<< k = 0#32 := by
  rw [← BitVec.shiftLeft_add, Nat.add_comm]; exact h
/-- The word 1 (its highest bit) multiplied by x, k times. -/
def pw (k : Nat) : BitVec 32 := shN k 0x80000000#32
theorem tm_pw (a : BitVec 32) (k : Nat) : tmN 32 a (pw k) = shN k a := by
  have e : tmN 32 a 0x80000000#32 = a := by
    have h := tmN_one 31 0 rfl a
    simpa using h
  unfold pw; rw [tmN_shN, e]
theorem tm_sq (k : Nat) : tmN 32 (pw k) (pw k) = pw (k + k) := by
  rw [tm_pw]; unfold pw; rw [shN_add]
/-- What a byte does to the word. -/
def by1 (w : BitVec 32) (c : BitVec 8) : BitVec 32 := shN 8 (w ^^^ c.zeroExtend 32)
/-- What bytes do to the word, one behind the other. -/
def over (w : BitVec 32) (l : List (BitVec 8)) : BitVec 32 := l.foldl by1 w
theorem ca_yes {q k : Nat} {v t : BitVec 32} (h : shN (q * k) v = t) (ho : k % 2 = 1) : shN ((q + q) * (k / 2)) (shN q v) = t := by
  rw [shN_add, ← h]; congr 1
  have e : k = k / 2 + k / 2 + 1 := by omega
  have : q * k = q * (k / 2) + q * (k / 2) + q := by
    conv => lhs; rw [e]
    rw [Nat.mul_add, Nat.mul_add]; omega
  rw [this, Nat.add_mul]; omega
theorem ca_no {q k : Nat} {v t : BitVec 32} (h : shN (q * k) v = t) (ho : k % 2 = 0) : shN ((q + q) * (k / 2)) v = t := by
  rw [← h]; congr 1
  have e : k = k / 2 + k / 2 := by omega
  have : q * k = q * (k / 2) + q * (k / 2) := by
    conv => lhs; rw [e]
    rw [Nat.mul_add]
  rw [this, Nat.add_mul]
theorem i64_and1 (n : Nat) (h : n < 9223372036854775808) : (bits .and .i64 (n : Int) 1 != 0) = decide (n % 2 = 1) := by
  have e : bits .and .i64 (n : Int) 1 = ((n % 2 : Nat) : Int) := by
    show IntKind.i64.wrap ((BitVec.ofInt 64 (n : Int) &&& BitVec.ofInt 64 1).toNat : Int) = _
    have h1 : (BitVec.ofInt 64 (n : Int)).toNat = n := by rw [BitVec.ofInt_natCast, BitVec.toNat_ofNat]; omega
    have h2 : (BitVec.ofInt 64 (1 : Int)).toNat = 1 := by decide
    rw [BitVec.toNat_and, h1, h2, Nat.and_one_is_mod]
    rw [IntKind.wrap_i64]; omega
  rw [e]
  rcases Nat.mod_two_eq_zero_or_one n with h | h <;> rw [h] <;> decide
/-- A bytes number. -/
def c8 (x : BitVec 8) : Int := (x.toNat : Int)
theorem c8_lo (x : BitVec 8) : 0 ≤ c8 x := by unfold c8; omega
theorem c8_hi (x : BitVec 8) : c8 x < 256 := by unfold c8; have := x.isLt; omega
theorem c8_nat (x : BitVec 8) : (c8 x).toNat = x.toNat := by unfold c8; omega
theorem c8_inj {x y : BitVec 8} (h : c8 x = c8 y) : x = y := by
  unfold c8 at h; exact BitVec.eq_of_toNat_eq (by omega)
theorem c8_of (a : Int) (h0 : 0 ≤ a) (h1 : a < 256) : ∃ x, a = c8 x := by
  refine ⟨BitVec.ofNat 8 a.toNat, ?_⟩
  unfold c8; rw [BitVec.toNat_ofNat, Nat.mod_eq_of_lt (by omega)]; omega
theorem u_low (x : BitVec 32) : u x % (256 : Int) = c8 (x.setWidth 8) := by
  unfold u c8; rw [BitVec.toNat_setWidth]; omega
theorem bits_xor_c (x y : BitVec 8) : bits .xor .u8 (c8 x) (c8 y) = c8 (x ^^^ y) := by
  unfold c8; rw [u8_xor_nat _ _ x.isLt y.isLt, BitVec.toNat_xor]
theorem u_ix (y : BitVec 32) (c : BitVec 8) : bits .xor .u8 (u y % (256 : Int)) (c8 c) = c8 (y.setWidth 8 ^^^ c) := by
  rw [u_low, bits_xor_c]
theorem c8_u (c : BitVec 8) : c8 c = u (c.zeroExtend 32) := by
  unfold u c8; have := c.isLt; rw [BitVec.toNat_setWidth, Nat.mod_eq_of_lt (by omega)]
theorem u_xor_c (y : BitVec 32) (c : BitVec 8) : bits .xor .u32 (u y) (c8 c) = u (y ^^^ c.zeroExtend 32) := by
  rw [c8_u, bits_xor_u]
theorem u_tdiv (x : BitVec 32) : (u x).tdiv 2 % (4294967296 : Int) = u (x >>> 1) := by
  have h0 := u_lo (x >>> 1)
  have h1 := u_hi (x >>> 1)
  rw [Int.tdiv_eq_ediv_of_nonneg (u_lo x), u_half]; omega
theorem u_odd (x : BitVec 32) : (u x % (2 : Int) == 1) = x.getLsbD 0 := by
  have h : x.getLsbD 0 = decide (x.toNat % 2 = 1) := by
    rw [BitVec.getLsbD, Nat.testBit_zero]
  rw [h]; unfold u
  rw [Bool.eq_iff_iff]; simp; omega
theorem u_top (x : BitVec 32) : decide ((2147483648 : Int) ≤ u x) = x.getLsbD 31 := by
  have h : x.getLsbD 31 = decide (2147483648 ≤ x.toNat) := by
    have := BitVec.msb_eq_decide x
    rw [BitVec.msb_eq_getLsbD_last] at this
    exact this
  rw [h]; unfold u
  rw [Bool.eq_iff_iff]; simp; omega
theorem sh_even (z : BitVec 32) (h : z.getLsbD 31 = false) : sh (z <<< 1) = z := by
  have h0 : (z <<< 1).getLsbD 0 = false := by rw [BitVec.getLsbD_shiftLeft]; simp
  unfold sh; rw [if_neg (by rw [h0]; simp)]
  apply BitVec.eq_of_getLsbD_eq; intro i hi
  rw [BitVec.getLsbD_ushiftRight, BitVec.getLsbD_shiftLeft]
  by_cases q : i = 31
  · subst q; rw [h]; decide
  · have e : 1 + i - 1 = i := by omega
    have f : 1 + i < 32 := by omega
    rw [e]; simp [f]
theorem shN_even (k m : Nat) (v : BitVec 32) (hk : k + m = 8) (h : ∀ i, 24 ≤ i → v.getLsbD i = false) : shN k (v <<< k) = v := by
  induction k generalizing m with
  | zero => simp [shN]
  | succ k ih =>
    rw [shN, BitVec.shiftLeft_add, sh_even _ (by rw [BitVec.getLsbD_shiftLeft, h (31 - k) (by omega)]; simp)]
    exact ih (m + 1) (by omega)
theorem by1_eq (y : BitVec 32) (c : BitVec 8) : shN 8 ((y.setWidth 8 ^^^ c).zeroExtend 32) ^^^ y >>> 8 = by1 y c := by
  have e : shN 8 ((y >>> 8) <<< 8) = y >>> 8 := shN_even 8 0 _ rfl (fun i hi => by
    rw [BitVec.getLsbD_ushiftRight]; exact BitVec.getLsbD_of_ge _ _ (by omega))
  conv => lhs; rw [← e]
  rw [← shN_xor]
  unfold by1
  congr 1
  apply BitVec.eq_of_getLsbD_eq; intro i hi
  rw [BitVec.getLsbD_xor, BitVec.getLsbD_xor, BitVec.getLsbD_setWidth, BitVec.getLsbD_setWidth, BitVec.getLsbD_xor, BitVec.getLsbD_setWidth, BitVec.getLsbD_shiftLeft, BitVec.getLsbD_ushiftRight]
  by_cases q : i < 8
  · simp [q, hi]
  · have f : 8 + (i - 8) = i := by omega
    have f2 : c.getLsbD i = false := BitVec.getLsbD_of_ge _ _ (by omega)
    rw [f, f2]; simp [q, hi]
theorem u_by1 (y : BitVec 32) (c : BitVec 8) : bits .xor .u32 (u (shN 8 ((y.setWidth 8 ^^^ c).zeroExtend 32))) (u y / (256 : Int)) = u (by1 y c) := by
  have e : u y / (256 : Int) = u (y >>> 8) := by have := shr_u y 8; simpa using this
  rw [e, bits_xor_u, by1_eq]
theorem over_snoc (x : BitVec 32) (l : List (BitVec 8)) (c : BitVec 8) : over x (l ++ [c]) = by1 (over x l) c := by
  unfold over; rw [List.foldl_append]; rfl
theorem over_app (x : BitVec 32) (l m : List (BitVec 8)) : over x (l ++ m) = over (over x l) m := by
  unfold over; rw [List.foldl_append]
theorem take_one {α : Type} (l : List α) (k : Nat) (d : α) (h : k < l.length) : l.take (k + 1) = l.take k ++ [l.getD k d] := by
  rw [List.take_succ_eq_append_getElem h]; simp [h]
theorem pw8 : pw 8 = 8388608#32 := by decide
end Go.Proofs.Ytbdlebengmbooaa.Sm
