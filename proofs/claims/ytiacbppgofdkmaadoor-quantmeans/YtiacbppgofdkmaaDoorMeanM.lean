/-
  What Parse tells of digits, a dot, digits and a suffix.
-/
import Derived.Test.YtiacbppgofdkmaaDoorParseA
import Derived.Test.YtiacbppgofdkmaaDoorPrintN
namespace Go.Proofs.YtiacbppgofdkmaaDoor
open Go.RowKit Go.Lib
theorem dec_pad : ∀ (d part : Nat), part < 10 ^ d → ∃ tl : List UInt8, decDigits (10 ^ d + part) = 49 :: tl ∧ tl.length = d ∧ numOf tl = part ∧ ∀ c ∈ tl, 48 ≤ c.toNat ∧ c.toNat ≤ 57
  | 0, part, h => by
    have e : part = 0 := by simpa using h
    subst e
    refine ⟨[], ?_, rfl, rfl, by simp⟩
    rw [decDigits, dif_pos (by decide)]
    rfl
  | d + 1, part, h => by
    have h10 : 10 ^ (d + 1) = 10 ^ d * 10 := Nat.pow_succ _ _
    have hp : 0 < 10 ^ d := Nat.pow_pos (by omega)
    obtain ⟨tl, e, hl, hn, hd⟩ := dec_pad d (part / 10) (by omega)
    have e1 : (10 ^ (d + 1) + part) / 10 = 10 ^ d + part / 10 := by omega
    have e2 : (10 ^ (d + 1) + part) % 10 = part % 10 := by omega
    refine ⟨tl ++ [UInt8.ofNat (48 + part % 10)], ?_, by simp [hl], ?_, ?_⟩
    · rw [decDigits, dif_neg (by omega), e1, e2, e]; rfl
    · rw [numOf_snoc, hn, digit_of (Nat.mod_lt _ (by decide))]; omega
    · intro c hc
      rcases List.mem_append.1 hc with q | q
      · exact hd c q
      · simp only [List.mem_singleton] at q
        subst q
        rw [digit_of (Nat.mod_lt _ (by decide))]
        omega
theorem numOf_app : ∀ (b a : List UInt8), numOf (a ++ b) = numOf a * 10 ^ b.length + numOf b
  | [], a => by simp [numOf]
  | c :: b, a => by
    have h1 := numOf_app b (a ++ [c])
    have h2 := numOf_app b [c]
    rw [List.append_assoc, List.singleton_append] at h1
    rw [List.singleton_append] at h2
    rw [h1, h2, numOf_snoc]
    have e : numOf [c] = c.toNat - 48 := by simp [numOf]
    rw [e, List.length_cons, Nat.pow_succ, Nat.add_mul, Nat.mul_assoc, Nat.mul_comm 10, Nat.add_assoc]
theorem split_at {a b : List UInt8} (ha : ∀ c ∈ a, 48 ≤ c.toNat ∧ c.toNat ≤ 57) (hb : ∀ c, b.head? = some c → isD c = false) : rst (a ++ b) = b ∧ dgs (a ++ b) = a := by
  have h1 : rst (a ++ b) = b := dropWhile_all _ _ (fun c hc => digs_has c (ha c hc)) hb
  refine ⟨h1, ?_⟩
  have h := dgs_rst (a ++ b)
  rw [h1] at h
  exact List.append_cancel_right h
theorem mean_parse (t : ByteArray) (n d part k : Nat) (tl : List UInt8) (hk : k < 12) (hn : n < 4294967296) (hd : 1 ≤ d ∧ d ≤ 9) (hl : tl.length = d) (hp : numOf tl = part) (htl : ∀ c ∈ tl, 48 ≤ c.toNat ∧ c.toNat ≤ 57)
    (ht : t.data.toList = decDigits n ++ (46 :: (tl ++ (sufT k).data.toList))) : parseR t = timesT ((n * 10 ^ d + part) * sufN k) (10 ^ d) := by
  have h1 := split_at (a := decDigits n) (b := 46 :: (tl ++ (sufT k).data.toList)) (dec_digits n) (fun c hc => by simp at hc; subst hc; decide)
  have h2 := split_at (a := tl) (b := (sufT k).data.toList) htl (suf_head k hk)
  have hW : pW t = decDigits n := by unfold pW; rw [ht]; exact h1.2
  have hR : pR t = 46 :: (tl ++ (sufT k).data.toList) := by unfold pR; rw [ht]; exact h1.1
  have hD : pD t = true := by unfold pD; rw [hR]; rfl
  have hB : pB t = tl ++ (sufT k).data.toList := by unfold pB; rw [hR]; rfl
  have hP : pP t = tl := by unfold pP; rw [hD, if_pos rfl, hB]; exact h2.2
  have hF : pF t = sufN k := by
    unfold pF pS
    rw [hD, if_pos rfl, hB, h2.1]
    have e : (⟨(sufT k).data.toList.toArray⟩ : ByteArray) = sufT k := by cases sufT k; simp
    rw [e]; exact facR_of k hk
  unfold parseR
  rw [if_pos, hW, hP, hF, numOf_app, numOf_dec, hl, hp]
  unfold pOk
  refine ⟨?_, ?_, ?_, ?_⟩
  · rw [hW]; exact dec_ne n
  · intro _; rw [hP]; intro e; rw [e] at hl; simp at hl; omega
  · rw [hF]; have := (sufN_pos k hk).1; omega
  · rw [hW, hP, hl]
    have := dec_le 9 n (Nat.lt_trans hn (by decide))
    omega
/-- The numbers of the law. -/
structure Mn (n ten part f : Nat) : Prop where
  a : n * ten + part < 4611686018427387904
  f : f ≤ 1125899906842624
  t : 0 < ten ∧ ten ≤ 1000000000
def mA (n ten part f : Nat) : Nat := (n * ten + part) * f
def mH (n ten part f : Nat) : Nat := mA n ten part f % 18446744073709551616 * 1000 / 18446744073709551616 + mA n ten part f / 18446744073709551616 * 1000
def mL (n ten part f : Nat) : Nat := mA n ten part f % 18446744073709551616 * 1000 % 18446744073709551616
theorem Mn.low {n ten part f : Nat} (h : Mn n ten part f) : mA n ten part f / 18446744073709551616 < 9007199254740992 := by
  have h1 : mA n ten part f ≤ 4611686018427387904 * 1125899906842624 := Nat.mul_le_mul (Nat.le_of_lt h.a) h.f
  have e : (4611686018427387904 * 1125899906842624 : Nat) = 5192296858534827628530496329220096 := by decide
  omega
theorem Mn.sum {n ten part f : Nat} : mH n ten part f * 18446744073709551616 + mL n ten part f = (n * ten + part) * (f * 1000) := by
  rw [← Nat.mul_assoc]
  show _ = mA n ten part f * 1000
  unfold mH mL
  omega
theorem mn_over {n ten part f : Nat} (h : Mn n ten part f) (ho : ten ≤ mH n ten part f) : timesT ((n * ten + part) * (f * 1000)) ten = (0, 7) := by
  unfold timesT
  rw [if_neg]
  have hq : 18446744073709551616 ≤ (n * ten + part) * (f * 1000) / ten := by
    rw [Nat.le_div_iff_mul_le h.t.1, ← Mn.sum]
    have := Nat.mul_le_mul_left 18446744073709551616 ho
    omega
  unfold ceilT
  omega
theorem mn_in {n ten part f : Nat} (h : Mn n ten part f) (ho : mH n ten part f < ten) : (mH n ten part f * 18446744073709551616 + mL n ten part f) / ten < 18446744073709551616 := by
  rw [Nat.div_lt_iff_lt_mul h.t.1]
  have h2 : mL n ten part f < 18446744073709551616 := Nat.mod_lt _ (by decide)
  have h3 : (mH n ten part f + 1) * 18446744073709551616 ≤ ten * 18446744073709551616 := Nat.mul_le_mul_right _ ho
  rw [Nat.mul_comm 18446744073709551616]
  omega
end Go.Proofs.YtiacbppgofdkmaaDoor
