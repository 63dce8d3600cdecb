/-
  THE WALK of PackCounts.
-/
import Derived.Test.YtjnjliojkcnddaaEnc
namespace Go.Proofs.Ytjnjliojkcnddaa
open Go.RowKit

theorem form_get (v i : Nat) (hi : i < (form v).length) : ((form v).getD i 0).toNat = v / 128 ^ i % 128 + (if i + 1 < (form v).length then 128 else 0) := by
  induction i generalizing v with
  | zero =>
    by_cases h : v < 128
    · rw [form_low h]; simp; omega
    · rw [form_high h]
      have := form_pos (v / 128)
      simp; rw [if_pos (by omega)]; omega
  | succ i ih =>
    by_cases h : v < 128
    · rw [form_low h] at hi; simp at hi
    · rw [form_high h] at hi ⊢
      rw [List.length_cons] at hi ⊢
      rw [List.getD_cons_succ, ih (v / 128) (by omega), Nat.div_div_eq_div_mul, Nat.pow_succ, Nat.mul_comm 128]
      congr 1
      by_cases h2 : i + 1 < (form (v / 128)).length
      · rw [if_pos h2, if_pos (by omega)]
      · rw [if_neg h2, if_neg (by omega)]
theorem form_end (v : Nat) : v / 128 ^ (form v).length = 0 := by
  induction v using Nat.strongRecOn with
  | _ v ih =>
    by_cases h : v < 128
    · rw [form_low h]; simp; omega
    · rw [form_high h, List.length_cons, Nat.pow_succ, Nat.mul_comm, ← Nat.div_div_eq_div_mul]
      exact ih _ (by omega)
theorem form_last (v : Nat) (h1 : 1 < (form v).length) : 0 < v / 128 ^ ((form v).length - 1) := by
  induction v using Nat.strongRecOn with
  | _ v ih =>
    by_cases h : v < 128
    · rw [form_low h] at h1; simp at h1
    · rw [form_high h, List.length_cons] at h1 ⊢
      rw [Nat.add_sub_cancel]
      by_cases h2 : 1 < (form (v / 128)).length
      · have := ih (v / 128) (by omega) h2
        rw [show (form (v / 128)).length = (form (v / 128)).length - 1 + 1 by omega, Nat.pow_succ, Nat.mul_comm, ← Nat.div_div_eq_div_mul]
        exact this
      · rw [show (form (v / 128)).length = 1 by omega]; simp; omega

theorem and127_8 (c : UInt8) : bits .and .u8 (c8 c) 127 = ((c.toNat % 128 : Nat) : Int) := by
  have h := u8_and_nat c.toNat 127 c.toNat_lt (by decide)
  rw [nat_mask7] at h; exact h
theorem and127_64 (n : Nat) (hn : n < 18446744073709551616) : bits .and .u64 (n : Int) 127 = ((n % 128 : Nat) : Int) := by
  have h := u64_and_nat n 127 hn (by decide)
  rw [nat_mask7] at h; exact h

set_option maxHeartbeats 4000000 in
set_option maxRecDepth 100000 in
theorem counts_any (v : Value) (l : List UInt8) (n : Nat) (w : World) (hv : Bytes w v l) (hl : l = form n) (hn : n < 18446744073709551616) :
    Calls Try.prog 11 #[v, .int .u64 n] w fun e w' => e = .returned (.bool true) ∧ w' = w := by
  obtain ⟨a, cap, rfl, hlc, hcm, _, hc⟩ := hv
  unfold maxLen at hcm
  have Hc : Aside (∀ k, k < l.length → ∃ b off, a = some ⟨b, off, none⟩ ∧ w.cell? ⟨b, off + k, none⟩ = some (.int .u8 (c8 (l.getD k 0)))) := hc
  have hpos : 1 ≤ l.length := by rw [hl]; exact form_pos n
  have hten : l.length ≤ 10 := by rw [hl]; exact form_ten n hn
  obtain ⟨b, off, rfl, hlast⟩ := hc (l.length - 1) (by omega)
  obtain ⟨m, hm⟩ : ∃ m, l.length = m + 1 := ⟨l.length - 1, by omega⟩
  obtain ⟨c, hcc⟩ : ∃ c, c = l.getD m 0 := ⟨_, rfl⟩
  rw [hm, Nat.add_sub_cancel, ← hcc] at hlast
  have hg := form_get n m (by rw [← hl]; omega)
  rw [← hl, ← hcc, if_neg (by omega)] at hg
  have hlo : c8 c < 128 := by unfold c8; omega
  have hz : 0 < m → ¬ c8 c = 0 := fun hp => by
    have h2 := form_last n (by rw [← hl]; omega)
    have h3 := form_end n
    rw [← hl, hm] at h2 h3
    rw [Nat.add_sub_cancel] at h2
    rw [Nat.pow_succ, ← Nat.div_div_eq_div_mul] at h3
    unfold c8; omega
  have c0 := c8_lo c
  have HL : Aside (l = form n ∧ l.length = m + 1) := ⟨hl, hm⟩
  rw [hm] at hlc hpos hten ⊢
  clear hc hg hcc hl hm
  have hnz : ((m : Int) + 1 == 0) = false := by rw [beq_eq_false_iff_ne]; omega
  have hbg : ¬ 128 ≤ c8 c := by omega
  go_enter Try.func11, Try.ntmps11
  by_cases hm0 : 0 < m
  all_goals
    try have hz' : (c8 c == 0) = false := by rw [beq_eq_false_iff_ne]; exact hz hm0
    clear hz
    go_wp2_with fail
    clear hlast hlo c0 hnz hbg
    try clear hz'
    go_loopg [1, 6] (m + 1) (fun g sv si wr => ∃ (k : Nat), k ≤ m + 1 ∧ g = m + 1 - k ∧ si = .int .i64 k ∧ sv = .int .u64 ((n / 128 ^ k : Nat) : Int) ∧ wr = w)
    case atStart => exact ⟨0, Nat.zero_le _, rfl, rfl, by simp, rfl⟩
    case round =>
      obtain ⟨k, hk, hg, rfl, rfl, rfl⟩ := hrel
      have G : Aside (gk = m + 1 - k) := hg
      clear hg
      by_cases hlt : k < m + 1
      · obtain ⟨b', off', e', hcell⟩ := Hc.out k (by rw [HL.out.2]; exact hlt)
        simp only [Option.some.injEq, Addr.mk.injEq, and_true] at e'
        obtain ⟨rfl, rfl⟩ := e'
        obtain ⟨q, hq⟩ : ∃ q, q = n / 128 ^ k := ⟨_, rfl⟩
        have Q : Aside (q = n / 128 ^ k) := hq
        have hql : q < 18446744073709551616 := by rw [hq]; exact Nat.lt_of_le_of_lt (Nat.div_le_self _ _) hn
        obtain ⟨c, hcc⟩ : ∃ c, c = l.getD k 0 := ⟨_, rfl⟩
        rw [← hcc] at hcell
        have hgt := form_get n k (by rw [← HL.out.1, HL.out.2]; exact hlt)
        rw [← HL.out.1, ← hcc, ← hq, HL.out.2] at hgt
        rw [← hq]
        clear hq hcc
        have d0 := c8_lo c
        have d1 := c8_hi c
        have e2 := and127_64 q hql
        have e1 := and127_8 c
        have e3 : c.toNat % 128 = q % 128 := by rw [hgt]; split <;> omega
        rw [e3] at e1
        clear e3
        by_cases hkm : k < m
        · first
            | (exfalso; omega)
            | (have d2 : 128 ≤ c8 c := by rw [if_pos (by omega)] at hgt; unfold c8; omega
               clear hgt
               go_wp2_with fail
               go_roundg (m + 1 - (k + 1))
               case measure => have := G.out; omega
               case rel =>
                 refine ⟨k + 1, by omega, rfl, by go_num, ?_, rfl⟩
                 rw [Nat.pow_succ, ← Nat.div_div_eq_div_mul, ← Q.out]
                 simp)
        · have d2 : ¬ 128 ≤ c8 c := by rw [if_neg (by omega)] at hgt; unfold c8; omega
          clear hgt
          go_wp2_with fail
          go_roundg (m + 1 - (k + 1))
          case measure => have := G.out; omega
          case rel =>
            refine ⟨k + 1, by omega, rfl, by go_num, ?_, rfl⟩
            rw [Nat.pow_succ, ← Nat.div_div_eq_div_mul, ← Q.out]
            simp
      · have e : n / 128 ^ k = 0 := by
          have h3 := form_end n
          rw [← HL.out.1, HL.out.2] at h3
          rw [show k = m + 1 by omega]; exact h3
        rw [e]
        clear e
        go_wp2_with fail
        go_ret
        exact ⟨rfl, rfl⟩

theorem counts_eq {k : Int} {n : Nat} (hk : k = n) (v : Value) (l : List UInt8) (w : World) (hv : Bytes w v l) (hl : l = form n) (hn : n < 18446744073709551616) :
    Calls Try.prog 11 #[v, .int .u64 k] w fun e w' => e = .returned (.bool true) ∧ w' = w := by
  rw [hk]; exact counts_any v l n w hv hl hn
theorem nosize : (⟨#[]⟩ : ByteArray).size = 0 := rfl
theorem fits0 (n : Nat) (h : n < 18446744073709551616) : (⟨0, n, 0, ⟨#[]⟩⟩ : V).fits := ⟨⟨by simp, by simp⟩, h, ⟨by simp, by simp⟩, by simp [nosize]⟩
theorem ok0 (n : Nat) : (⟨0, n, 0, ⟨#[]⟩⟩ : V).ok := ⟨⟨by simp, by simp⟩, fun h => by simp at h⟩
theorem fits1 (i : Int) (h0 : -9223372036854775808 ≤ i) (h1 : i < 9223372036854775808) : (⟨1, 0, i, ⟨#[]⟩⟩ : V).fits := ⟨⟨by simp, by simp⟩, by simp, ⟨h0, h1⟩, by simp [nosize]⟩
theorem ok1 (i : Int) : (⟨1, 0, i, ⟨#[]⟩⟩ : V).ok := ⟨⟨by simp, by simp⟩, fun h => by simp at h⟩
theorem fits4 (t : ByteArray) (h : t.size ≤ 140737488355328) : (⟨4, 0, 0, t⟩ : V).fits := ⟨⟨by simp, by simp⟩, by simp, ⟨by simp, by simp⟩, h⟩
theorem ok4 (t : ByteArray) : (⟨4, 0, 0, t⟩ : V).ok := ⟨⟨by simp, by simp⟩, fun h => by simp at h⟩
theorem wrapn (n : Nat) (h : n < 18446744073709551616) : IntKind.u64.wrap (n : Int) = n := by rw [IntKind.wrap_u64]; omega
theorem twice_pos (i : Int) (h0 : 0 ≤ i) (h1 : i < 9223372036854775808) : IntKind.u64.wrap (IntKind.u64.wrap i * 2) = (zig i : Int) := by
  simp only [IntKind.wrap_u64]; unfold zig; rw [if_pos h0]; omega
theorem twice_neg (i : Int) (h0 : i < 0) (h1 : -9223372036854775808 ≤ i) : bits .xor .u64 IntKind.u64.max (IntKind.u64.wrap (IntKind.u64.wrap i * 2)) = (zig i : Int) := by
  simp only [IntKind.wrap_u64]
  have e1 : i % 18446744073709551616 * 2 % 18446744073709551616 = ((18446744073709551615 - zig i : Nat) : Int) := by unfold zig; rw [if_neg (by omega)]; omega
  have hz := zig_lt i h1 (by omega)
  have e2 : IntKind.u64.max = ((18446744073709551615 : Nat) : Int) := by decide
  rw [e1, e2, u64_xor_nat _ _ (by decide) (by omega), Nat.xor_comm, xor_ones _ (by omega)]
  omega

set_option maxHeartbeats 4000000 in
set_option maxRecDepth 100000 in
theorem packCounts_walk (n : Nat) (i : Int) (t : ByteArray) (w : World) (hn : n < 18446744073709551616) (hi : -9223372036854775808 ≤ i ∧ i < 9223372036854775808) (ht : t.size ≤ 140737488351232) :
    Calls Try.prog 3 #[.int .u64 n, .int .i64 i, .string t] w fun e w' => e = .returned (.bool true) ∧ Below w.heap.size w w' := by
  obtain ⟨i0, i1⟩ := hi
  go_enter Try.func3, Try.ntmps3
  go_wp2_with fail
  refine (fixed_any w).mono ?_
  rintro e w1 ⟨rfl, hb⟩
  have B1 : Aside (Below w.heap.size w w1) := hb
  clear hb
  go_wp2_with fail
  refine (written_one ⟨0, n, 0, ⟨#[]⟩⟩ _ (fits0 n hn) (ok0 n) (by simp [nosize]) _ (one_val w1 ⟨0, n, 0, ⟨#[]⟩⟩)).mono ?_
  rintro e w2 ⟨v2, rfl, ho, hb⟩
  have B2 : Aside (Below w.heap.size w w2) := (B1.out.alloc B1.out.size _).trans (hb.mono (by have := B1.out.size; simp; omega))
  have e1 : (⟨0, n, 0, ⟨#[]⟩⟩ : V).enc = form n := rfl
  rw [e1] at ho
  have p1 := form_pos n
  have p2 := form_ten n hn
  obtain ⟨a2, cap2, rfl, _, _⟩ := ho.bytes.len
  have O2 : Aside (Bytes w2 (.slice a2 (form n).length cap2) (form n)) := ho.bytes
  clear ho hb e1
  obtain ⟨m2, hm2⟩ : ∃ m2, m2 = (form n).length := ⟨_, rfl⟩
  rw [← hm2] at p1 p2 ⊢
  have M2 : Aside (m2 = (form n).length) := hm2
  clear hm2
  go_wp2_with fail
  refine (counts_any _ (form n) n w2 (by have := O2.out; rw [← M2.out] at this; exact this) rfl hn).mono ?_
  rintro e w2 ⟨rfl, rfl⟩
  by_cases hneg : i < 0
  all_goals
    go_wp2_with fail
    refine (written_one ⟨1, 0, i, ⟨#[]⟩⟩ _ (fits1 i i0 i1) (ok1 i) (by simp [nosize]) _ (one_val w2 ⟨1, 0, i, ⟨#[]⟩⟩)).mono ?_
    rintro e w3 ⟨v3, rfl, ho, hb⟩
    have B3 : Aside (Below w.heap.size w w3) := (B2.out.alloc B2.out.size _).trans (hb.mono (by have := B2.out.size; simp; omega))
    have e1 : (⟨1, 0, i, ⟨#[]⟩⟩ : V).enc = form (zig i) := rfl
    rw [e1] at ho
    have O3 : Aside (Bytes w3 v3 (form (zig i))) := ho.bytes
    clear ho hb e1
    go_wp2_with fail
    refine (counts_eq (n := zig i) ?hk _ _ w3 O3.out rfl (zig_lt i i0 i1)).mono ?_
    case hk => first | exact twice_neg i hneg i0 | (unfold zig; rw [if_pos (by omega)]; omega)
    rintro e w3 ⟨rfl, rfl⟩
    by_cases hbig : t.size > 1048566
    · have hbig' : ((t.size : Int) > 1048566) := by omega
      go_wp2_with fail
      go_ret
      exact ⟨rfl, B3.out⟩
    · have hbig' : ¬ ((t.size : Int) > 1048566) := by omega
      go_wp2_with fail
      refine (written_one ⟨4, 0, 0, t⟩ _ (fits4 t (by omega)) (ok4 t) (by show t.size ≤ _; omega) _ (one_val w3 ⟨4, 0, 0, t⟩)).mono ?_
      rintro e w4 ⟨v4, rfl, ho, hb⟩
      have B4 : Aside (Below w.heap.size w w4) := (B3.out.alloc B3.out.size _).trans (hb.mono (by have := B3.out.size; simp; omega))
      have e1 : (⟨4, 0, 0, t⟩ : V).enc = form t.size ++ t.data.toList := rfl
      rw [e1] at ho
      obtain ⟨f, hf⟩ : ∃ f, f = form t.size := ⟨_, rfl⟩
      rw [← hf] at ho
      have f1 := form_pos t.size
      have f2 := form_ten t.size (by omega)
      rw [← hf] at f1 f2
      have F : Aside (f = form t.size) := hf
      clear hf e1 hb
      obtain ⟨a4, n4, cap4, rfl, hn4, hn4c, hcm4⟩ : ∃ a4 n4 cap4, v4 = .slice a4 n4 cap4 ∧ n4 = f.length + t.size ∧ n4 ≤ cap4 ∧ cap4 ≤ maxLen := by
        obtain ⟨a4, cap4, e, h1, h2⟩ := ho.bytes.len
        refine ⟨a4, _, cap4, e, by rw [List.length_append, str_size], h1, h2⟩
      unfold maxLen at hcm4
      have O4 : Aside (Bytes w4 (.slice a4 n4 cap4) (f ++ t.data.toList) ∧ n4 = f.length + t.size) := ⟨ho.bytes, hn4⟩
      clear ho
      subst hn4
      have T4 : Aside (Bytes w4 (.slice a4 f.length cap4) f) := by
        have h1 := O4.out.1.take' f.length (by omega)
        rw [List.take_left] at h1; exact h1
      have hsub : ((f.length : Int) + t.size - t.size) = f.length := by omega
      have D4 : ∀ x n c, Bytes w4 (.slice x n c) ((f ++ t.data.toList).drop f.length) → (convert 24 9 (.slice x n c)).run Try.prog w4 = .ok (.string t) w4 := fun x n c h => by
        rw [List.drop_left] at h
        have := convT h
        rw [list_txt] at this; exact this
      have L4 : (f ++ t.data.toList).length = f.length + t.size := by rw [List.length_append, str_size]
      have H4 : Bytes w4 (.slice a4 (f ++ t.data.toList).length cap4) (f ++ t.data.toList) := by rw [L4]; exact O4.out.1
      have hd1 : ∀ m, f.length = cap4 → m = f.length + t.size - f.length → (convert 24 9 (.slice a4 m 0)).run Try.prog w4 = .ok (.string t) w4 := fun m h hm =>
        D4 _ _ _ (Bytes.none_left (by omega) (List.drop_eq_nil_of_le (by rw [L4]; omega)))
      have hd2 : (convert 24 9 (.slice (Option.map (fun x => x.add f.length) a4) (f.length + t.size - f.length) (cap4 - f.length))).run Try.prog w4 = .ok (.string t) w4 := by
        have h := H4.drop f.length (by rw [L4]; omega)
        rw [L4] at h
        exact D4 _ _ _ h
      rw [Nat.add_sub_cancel_left] at hd2
      obtain ⟨b4, o4, rfl⟩ : ∃ b4 o4, a4 = some ⟨b4, o4, none⟩ := by
        obtain ⟨a', cap', e', _, _, _, hc⟩ := H4
        simp only [Value.slice.injEq, true_and] at e'
        obtain ⟨rfl, rfl⟩ := e'
        obtain ⟨b, off, h, _⟩ := hc 0 (by rw [L4]; omega)
        exact ⟨b, off, h⟩
      rw [Option.map_some, add_plain] at hd2
      clear D4 L4 H4
      go_wp2_with fail
      refine (counts_any _ f t.size w4 T4.out F.out (by omega)).mono ?_
      rintro e w4 ⟨rfl, rfl⟩
      go_wp2_with fail
      all_goals
        go_ret
        exact ⟨rfl, B4.out⟩
end Go.Proofs.Ytjnjliojkcnddaa
