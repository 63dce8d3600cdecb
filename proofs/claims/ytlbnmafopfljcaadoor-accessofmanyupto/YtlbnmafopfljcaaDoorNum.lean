/-
  THE WALKS: numberForm, fold, unfold, firstNumber.
-/
import Derived.Test.YtlbnmafopfljcaaDoorBase2
namespace Go.Proofs.YtlbnmafopfljcaaDoor
open Go.RowKit

set_option maxHeartbeats 1000000 in
theorem numberForm_any (v : Nat) (hv : v < 18446744073709551616) (w : World) :
    Calls Tryd.prog 71 #[.int .u64 v] w fun e w' => ∃ v', e = .returned v' ∧ Own w.heap.size w' v' (form v) ∧ Below w.heap.size w w' := by
  have hmk : (Instr.makeSlice 86 (.int .i64 0) (.int .i64 10)).run Tryd.prog w = .ok (.slice (some ⟨w.heap.size, 0, none⟩) 0 10) (w.alloc (.cells (madeCells #[.int .u8 0] 10) 5)) :=
    make_bytes w 0 10 rfl rfl (by omega) (by omega)
  have O0 : Aside (Own w.heap.size (w.alloc (.cells (madeCells #[.int .u8 0] 10) 5)) (.slice (some ⟨w.heap.size, 0, none⟩) 0 10) []) :=
    World.ownsRow_made w _ 10 (Nat.le_refl _) (by decide) (by simp [size_madeCells])
  have T10 : Aside ((form v).length ≤ 10) := form_ten v hv
  go_enter Tryd.func71, Tryd.ntmps71
  go_wp2_with fail
  clear hmk
  go_loopg [0, 3] v (fun g sv so wr => ∃ (x : Nat) (vo : Value) (l : List UInt8), g = x ∧ x < 18446744073709551616 ∧ sv = .int .u64 (x : Int) ∧ vo = so ∧ l ++ form x = form v ∧ Own w.heap.size wr vo l ∧ Below w.heap.size w wr)
  case atStart => exact ⟨v, _, [], rfl, hv, rfl, rfl, rfl, O0.out, (Below.refl _ _).alloc (Nat.le_refl _) _⟩
  case round =>
    obtain ⟨x, vo, l, hg, hx, rfl, rfl, hf, ho, hb⟩ := hrel
    have R : Aside (l ++ form x = form v ∧ Below w.heap.size w wr ∧ gk = x) := ⟨hf, hb, hg⟩
    have O : Hid (Own w.heap.size wr vo l) := ho
    have S : Hid (w.heap.size ≤ wr.heap.size) := hb.size
    have L : Hid (l.length < 140737488355328) := by
      have := congrArg List.length hf
      rw [List.length_append] at this
      have := T10.out
      show _ < _; omega
    clear hf hb ho hg
    by_cases hlt : x < 128
    · have hlt' : ¬ (128 : Int) ≤ (x : Int) := by omega
      obtain ⟨c, hc⟩ : ∃ c, c = UInt8.ofNat x := ⟨_, rfl⟩
      have C : Aside (c8 c = x ∧ c = UInt8.ofNat x) := ⟨by rw [hc, c8_of x (by omega)], hc⟩
      clear hc
      go_wp2_with (at_builtin; refine app_byte rfl _ _ rfl rfl O.out S.out _ c ?hn rfl L.out ?_)
      case hn => rw [C.out.1]
      intro v' w' h1 h2 _
      have A : Aside (Own w.heap.size w' v' (l ++ [c]) ∧ Below w.heap.size w w') := ⟨h1, R.out.2.1.trans (grown_below h2 O.out S.out)⟩
      clear h1 h2 O S L
      go_wp2_with fail
      go_ret
      refine ⟨_, rfl, ?_, A.out.2⟩
      rw [← R.out.1, form_low hlt, ← C.out.2]; exact A.out.1
    · have hlt' : (128 : Int) ≤ (x : Int) := by omega
      obtain ⟨c, hc⟩ : ∃ c, c = UInt8.ofNat (x % 128 + 128) := ⟨_, rfl⟩
      have C : Aside (c8 c = (x : Int) % 128 + 128 ∧ c = UInt8.ofNat (x % 128 + 128)) := ⟨by rw [hc, c8_of _ (by omega)]; omega, hc⟩
      clear hc
      go_wp2_with (at_builtin; refine app_byte rfl _ _ rfl rfl O.out S.out _ c ?hn rfl L.out ?_)
      case hn => rw [C.out.1]
      intro v' w' h1 h2 _
      have A : Aside (Own w.heap.size w' v' (l ++ [c]) ∧ Below w.heap.size w w') := ⟨h1, R.out.2.1.trans (grown_below h2 O.out S.out)⟩
      clear h1 h2 O S L
      go_wp2_with fail
      go_roundg (x / 128)
      case measure => have := R.out.2.2; omega
      case rel =>
        refine ⟨x / 128, v', _, rfl, by omega, by go_num, rfl, ?_, A.out.1, A.out.2⟩
        rw [← R.out.1, form_high hlt, List.append_assoc, C.out.2]; rfl

theorem xor_ones (a : Nat) (ha : a < 18446744073709551616) : a ^^^ 18446744073709551615 = 18446744073709551615 - a := by
  have e2 := BitVec.toNat_not (x := BitVec.ofNat 64 a)
  have e3 : ~~~ (BitVec.ofNat 64 a) = BitVec.ofNat 64 a ^^^ BitVec.allOnes 64 := (BitVec.xor_allOnes).symm
  rw [e3, BitVec.toNat_xor, BitVec.toNat_ofNat, Nat.mod_eq_of_lt ha] at e2
  simpa using e2
theorem fold_bits (v : Int) (h1 : -9223372036854775808 ≤ v) (h2 : v < 9223372036854775808) :
    bits .xor .u64 (IntKind.u64.wrap (IntKind.u64.wrap v * 2)) (IntKind.u64.wrap (v / 9223372036854775808)) = (zig v : Int) := by
  simp only [IntKind.wrap_u64]
  by_cases h : 0 ≤ v
  · have e1 : v % 18446744073709551616 * 2 % 18446744073709551616 = ((zig v : Nat) : Int) := by unfold zig; rw [if_pos h]; omega
    have e2 : v / 9223372036854775808 % 18446744073709551616 = ((0 : Nat) : Int) := by omega
    rw [e1, e2, u64_xor_nat _ _ (zig_lt v h1 h2) (by decide), Nat.xor_zero]
  · have e1 : v % 18446744073709551616 * 2 % 18446744073709551616 = ((18446744073709551615 - zig v : Nat) : Int) := by unfold zig; rw [if_neg h]; omega
    have e2 : v / 9223372036854775808 % 18446744073709551616 = ((18446744073709551615 : Nat) : Int) := by omega
    have hz := zig_lt v h1 h2
    rw [e1, e2, u64_xor_nat _ _ (by omega) (by decide), xor_ones _ (by omega)]
    omega
theorem unfold_bits (u : Nat) (h1 : u < 18446744073709551616) :
    bits .xor .i64 ((u : Int) / 2) (wrap64 (-wrap64 (bits .and .u64 (u : Int) 1))) = zag u := by
  have ea : bits .and .u64 (u : Int) 1 = ((u % 2 : Nat) : Int) := by
    have h := u64_and_nat u 1 h1 (by decide)
    rw [show ((1 : Nat) : Int) = (1 : Int) from rfl] at h
    rw [h, nat_mask1]
  rw [ea]
  unfold zag
  rcases Nat.mod_two_eq_zero_or_one u with h | h
  · rw [h, if_pos rfl]
    show IntKind.i64.wrap ((BitVec.ofInt 64 ((u : Int) / 2) ^^^ BitVec.ofInt 64 (wrap64 (-wrap64 0))).toNat : Int) = _
    have h0 : BitVec.ofInt 64 (wrap64 (-wrap64 0)) = 0#64 := by decide +kernel
    rw [h0, BitVec.xor_zero, show (u : Int) / 2 = ((u / 2 : Nat) : Int) by omega, ofInt_u64 _ (by omega)]
    simp [IntKind.wrap, IntKind.bits, IntKind.signed]
    omega
  · rw [h, if_neg (by decide)]
    show IntKind.i64.wrap ((BitVec.ofInt 64 ((u : Int) / 2) ^^^ BitVec.ofInt 64 (wrap64 (-wrap64 1))).toNat : Int) = _
    have h0 : BitVec.ofInt 64 (wrap64 (-wrap64 1)) = BitVec.allOnes 64 := by decide +kernel
    rw [h0, BitVec.xor_allOnes, BitVec.toNat_not, show (u : Int) / 2 = ((u / 2 : Nat) : Int) by omega, ofInt_u64 _ (by omega)]
    simp [IntKind.wrap, IntKind.bits, IntKind.signed]
    omega
/-- What is read, behind k bytes that were worth A. -/
def lift (A k : Nat) (r : Nat × Nat × Nat) : Nat × Nat × Nat := if r.2.2 = 0 then (A + 128 ^ k * r.1, k + r.2.1, 0) else (0, 0, r.2.2)
theorem lift_zero (l : List UInt8) : num l 0 = lift 0 0 (num l 0) := by
  unfold lift
  split
  · rename_i h
    have e : num l 0 = ((num l 0).1, (num l 0).2.1, (num l 0).2.2) := rfl
    rw [h] at e
    simpa using e
  · rename_i h; exact num_err l 0 h
theorem lift_more {A k : Nat} {l : List UInt8} (hk : k < l.length) (h9 : k < 10) (hc : 128 ≤ (l.getD k 0).toNat) :
    lift A k (num (l.drop k) k) = lift (A + 128 ^ k * ((l.getD k 0).toNat - 128)) (k + 1) (num (l.drop (k + 1)) (k + 1)) := by
  have e : l.drop k = l.getD k 0 :: l.drop (k + 1) := by
    rw [List.drop_eq_getElem_cons hk]; simp [List.getD, hk]
  rw [e, num, if_neg (by omega), if_pos hc]
  unfold lift
  by_cases h : (num (l.drop (k + 1)) (k + 1)).2.2 = 0
  · rw [if_pos h, if_pos rfl, if_pos h, Nat.pow_succ]
    simp only [Prod.mk.injEq, and_true]
    refine ⟨?_, by omega⟩
    rw [Nat.mul_add, Nat.mul_assoc]; omega
  · rw [if_neg h, if_neg h, if_neg h]
theorem lift_last {A k : Nat} {l : List UInt8} (hk : k < l.length) (h9 : k < 10) (hc : (l.getD k 0).toNat < 128) :
    lift A k (num (l.drop k) k) = if (0 < k ∧ (l.getD k 0).toNat = 0) ∨ (k = 9 ∧ 1 < (l.getD k 0).toNat) then (0, 0, 21) else (A + 128 ^ k * (l.getD k 0).toNat, k + 1, 0) := by
  have e : l.drop k = l.getD k 0 :: l.drop (k + 1) := by
    rw [List.drop_eq_getElem_cons hk]; simp [List.getD, hk]
  rw [e, num, if_neg (by omega), if_neg (by omega)]
  split
  · rfl
  · rfl
theorem lift_end {A k : Nat} {l : List UInt8} (hk : k = l.length ∨ k = 10) (hk' : k ≤ l.length) (h9 : k ≤ 10) : lift A k (num (l.drop k) k) = (0, 0, if l.length < 10 then 20 else 21) := by
  by_cases h : l.length ≤ k
  · rw [List.drop_eq_nil_of_le h, num]
    unfold lift
    rw [if_neg (by split <;> simp)]
    by_cases h10 : l.length < 10
    · rw [if_pos h10, if_pos (by omega)]
    · rw [if_neg h10, if_neg (by omega)]
  · have : k = 10 := by omega
    subst this
    have e : l.drop 10 = l.getD 10 0 :: l.drop (10 + 1) := by
      rw [List.drop_eq_getElem_cons (by omega)]; simp [List.getD, show 10 < l.length by omega]
    rw [e, num, if_pos (by omega), if_neg (by omega)]
    rfl
theorem pow128 (k : Nat) : 128 ^ k = 2 ^ (7 * k) := by rw [show (128 : Nat) = 2 ^ 7 from rfl, ← Nat.pow_mul]

theorem or_lift (A k x : Nat) (hA : A < 128 ^ k) (hx : x * 128 ^ k < 18446744073709551616) (hk : k ≤ 9) (m : Int) (hm : m = x) :
    bits .or .u64 (A : Int) (IntKind.u64.wrap (m * 2 ^ (7 * k))) = ((A + 128 ^ k * x : Nat) : Int) := by
  have e : m * 2 ^ (7 * k) = ((x * 128 ^ k : Nat) : Int) := by rw [hm, pow128]; push_cast; rfl
  have hA' : A < 18446744073709551616 := Nat.lt_of_lt_of_le hA (Nat.le_trans (Nat.pow_le_pow_right (by decide) hk) (by decide))
  rw [e, IntKind.wrap_u64, show ((x * 128 ^ k : Nat) : Int) % 18446744073709551616 = ((x * 128 ^ k : Nat) : Int) by omega, u64_or_nat _ _ hA' hx, Nat.or_comm, nat_join (7 * k) (x * 128 ^ k) A ?_ ?_, Nat.add_comm, Nat.mul_comm x]
  · rw [pow128]; exact Nat.mul_mod_left _ _
  · rw [← pow128]; exact hA
theorem c8_sub {c : UInt8} (h : 128 ≤ c8 c) : c8 c - 128 = ((c.toNat - 128 : Nat) : Int) := by unfold c8 at *; omega
theorem tup3 {a a' b b' c c' : Int} (h1 : a = a') (h2 : b = b') (h3 : c = c') : Ending.returned (.tuple #[.int .u64 a, .int .i64 b, .int .i64 c]) = .returned (.tuple #[.int .u64 a', .int .i64 b', .int .i64 c']) := by rw [h1, h2, h3]

end Go.Proofs.YtlbnmafopfljcaaDoor
