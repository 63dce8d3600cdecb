/-
  THE WALK of KeyNumbers.
-/
import Derived.Test.YtggpiikiplogmaaDoorFixed
import Derived.Test.YtggpiikiplogmaaDoorNumb
namespace Go.Proofs.YtggpiikiplogmaaDoor
open Go.RowKit
theorem num_first (n : Nat) (h : n < 9223372036854775808) : ((num 8 n).getD 0 0).toNat ≤ 127 := by
  rw [num_head]
  show (UInt8.ofNat (n / 256 ^ 7)).toNat ≤ 127
  rw [UInt8.toNat_ofNat']
  have e : (256 ^ 7 : Nat) = 72057594037927936 := by decide
  rw [e]
  omega
theorem un_num (n : Nat) (h : n < 9223372036854775808) : unR (txt (num 8 n)) = ((n : Int), 0) := by
  have e : (256 ^ 8 : Nat) = 18446744073709551616 := by decide
  unfold unR
  rw [txt_size, num_length, txt_list, if_pos ⟨rfl, num_first n h⟩, num_val 8 n (by omega)]
theorem num_less (m n : Nat) (hm : m < 9223372036854775808) (hn : n < 9223372036854775808) : bl (num 8 m) (num 8 n) = decide ((m : Int) < (n : Int)) := by
  have e : (256 ^ 8 : Nat) = 18446744073709551616 := by decide
  rw [val_order _ _ (by rw [num_length, num_length]), num_val 8 m (by omega), num_val 8 n (by omega)]
  by_cases h : m < n
  · rw [decide_eq_true h, decide_eq_true (by omega)]
  · rw [decide_eq_false h, decide_eq_false (by omega)]
theorem num_key_less (t : ByteArray) (m n : Nat) (hm : m < 9223372036854775808) (hn : n < 9223372036854775808) : bl (keyL [t, txt (num 8 m)]) (keyL [t, txt (num 8 n)]) = decide ((m : Int) < (n : Int)) := by
  rw [key_order, aheadB, if_pos rfl, aheadB]
  by_cases h : m = n
  · subst h
    rw [if_pos rfl, decide_eq_false (by omega)]; rfl
  · rw [if_neg, txt_list, txt_list, num_less m n hm hn]
    intro e
    have e2 := congrArg unR e
    rw [un_num m hm, un_num n hn] at e2
    have := congrArg Prod.fst e2
    simp only at this
    omega
set_option maxHeartbeats 8000000 in
set_option maxRecDepth 100000 in
theorem numbers_up (m n : Nat) (t : ByteArray) (w : World) (hM : HasM w) (hm : m < 9223372036854775808) (hn : n < 9223372036854775808) (ht : t.size ≤ 140737488351232) :
    Calls Tryd.prog 8 #[.int .i64 m, .int .i64 n, .string t] w fun e w' => e = .returned (.bool true) ∧ Below w.heap.size w w' := by
  have H := Lib.hid hM
  have N1 : Hid (∀ W, Calls Tryd.prog 19 #[.int .i64 m] W fun e w' => e = .returned (.tuple #[.string (txt (num 8 m)), .int .i64 0]) ∧ Below W.heap.size W w') := Lib.hid fun W => number_up m W hm
  have N2 : Hid (∀ W, Calls Tryd.prog 19 #[.int .i64 n] W fun e w' => e = .returned (.tuple #[.string (txt (num 8 n)), .int .i64 0]) ∧ Below W.heap.size W w') := Lib.hid fun W => number_up n W hn
  have U1 : Hid (∀ W, Calls Tryd.prog 20 #[.string (txt (num 8 m))] W fun e w' => e = .returned (.tuple #[.int .i64 m, .int .i64 0]) ∧ Below W.heap.size W w') := Lib.hid fun W => by
    have := unnumber_any (txt (num 8 m)) W
    rw [un_num m hm] at this
    exact this
  have U2 : Hid (∀ W, Calls Tryd.prog 20 #[.string (txt (num 8 n))] W fun e w' => e = .returned (.tuple #[.int .i64 n, .int .i64 0]) ∧ Below W.heap.size W w') := Lib.hid fun W => by
    have := unnumber_any (txt (num 8 n)) W
    rw [un_num n hn] at this
    exact this
  have z1 : (txt (num 8 m)).size = 8 := by rw [txt_size, num_length]
  have z2 : (txt (num 8 n)).size = 8 := by rw [txt_size, num_length]
  have M1 : Hid (∀ v W, HasM W → Strs W v [t, txt (num 8 m)] → Calls Tryd.prog 11 #[v] W fun e w' => e = .returned (.tuple #[.string (makeR [t, txt (num 8 m)]).1, .int .i64 (makeR [t, txt (num 8 m)]).2]) ∧ Below W.heap.size W w') := Lib.hid fun v W h hv => make_any v _ W h hv (by
    intro u hu
    simp only [List.mem_cons, List.not_mem_nil, or_false] at hu
    rcases hu with rfl | rfl
    · omega
    · omega)
  have M2 : Hid (∀ v W, HasM W → Strs W v [t, txt (num 8 n)] → Calls Tryd.prog 11 #[v] W fun e w' => e = .returned (.tuple #[.string (makeR [t, txt (num 8 n)]).1, .int .i64 (makeR [t, txt (num 8 n)]).2]) ∧ Below W.heap.size W w') := Lib.hid fun v W h hv => make_any v _ W h hv (by
    intro u hu
    simp only [List.mem_cons, List.not_mem_nil, or_false] at hu
    rcases hu with rfl | rfl
    · omega
    · omega)
  have xy : Op.bytesLess (txt (num 8 m)).toList (txt (num 8 n)).toList = decide ((m : Int) < (n : Int)) := by
    rw [list_of_bytes, list_of_bytes, txt_list, txt_list]; exact num_less m n hm hn
  have KL : Hid ((makeR [t, txt (num 8 m)]).2 = 0 → (makeR [t, txt (num 8 n)]).2 = 0 → Op.bytesLess (makeR [t, txt (num 8 m)]).1.toList (makeR [t, txt (num 8 n)]).1.toList = decide ((m : Int) < (n : Int))) := Lib.hid fun h1 h2 => by
    have e1 : makeR [t, txt (num 8 m)] = ((makeR [t, txt (num 8 m)]).1, 0) := by rw [← h1]
    have e2 : makeR [t, txt (num 8 n)] = ((makeR [t, txt (num 8 n)]).1, 0) := by rw [← h2]
    obtain ⟨_, _, _, k1⟩ := make_ok e1
    obtain ⟨_, _, _, k2⟩ := make_ok e2
    rw [k1, k2, list_of_bytes, list_of_bytes, data_bytesOf, data_bytesOf]
    exact num_key_less t m n hm hn
  obtain ⟨x, hx⟩ : ∃ x, x = txt (num 8 m) := ⟨_, rfl⟩
  obtain ⟨y, hy⟩ : ∃ y, y = txt (num 8 n) := ⟨_, rfl⟩
  rw [← hx] at N1 U1 M1 KL xy z1
  rw [← hy] at N2 U2 M2 KL xy z2
  clear hx hy
  obtain ⟨⟨k, p⟩, hkp⟩ : ∃ r, r = makeR [t, x] := ⟨_, rfl⟩
  obtain ⟨⟨l, q⟩, hlq⟩ : ∃ r, r = makeR [t, y] := ⟨_, rfl⟩
  rw [← hkp] at M1 KL
  rw [← hlq] at M2 KL
  clear hkp hlq hM
  have FX := Lib.hid (fixed_ok w H.out)
  have gm : decide ((m : Int) ≥ 0) = true := decide_eq_true (by omega)
  have gn : decide ((n : Int) ≥ 0) = true := decide_eq_true (by omega)
  have lm : decide ((m : Int) < 0) = false := decide_eq_false (by omega)
  have ln : decide ((n : Int) < 0) = false := decide_eq_false (by omega)
  have HM := Lib.hid hm
  have HN := Lib.hid hn
  clear hm hn
  go_enter Tryd.func8, Tryd.ntmps8
  go_wp2_with fail
  refine FX.out.mono ?_
  rintro r w1 ⟨rfl, hb⟩
  have B1 := Lib.hid hb
  clear hb FX
  go_wp2_with fail
  refine (N1.out w1).mono ?_
  rintro r w2 ⟨rfl, hb⟩
  have B2 := Lib.hid (B1.out.trans (hb.mono B1.out.size))
  clear hb B1
  go_wp2_with fail
  refine (N2.out w2).mono ?_
  rintro r w3 ⟨rfl, hb⟩
  have B3 := Lib.hid (B2.out.trans (hb.mono B2.out.size))
  clear hb B2
  go_wp2_with fail
  refine (U1.out w3).mono ?_
  rintro r w4 ⟨rfl, hb⟩
  have B4 := Lib.hid (B3.out.trans (hb.mono B3.out.size))
  clear hb B3
  go_wp2_with fail
  refine (U2.out w4).mono ?_
  rintro r w5 ⟨rfl, hb⟩
  have B5 := Lib.hid (B4.out.trans (hb.mono B4.out.size))
  clear hb B4
  go_wp2_with fail
  have X6 := Lib.hid (below_built w5 (.cells #[.string t, .string x] 9))
  have B6 := Lib.hid (B5.out.trans (X6.out.mono B5.out.size))
  refine (M1.out _ _ (H.out.below B6.out) (strs_built w5 [t, x] _ _ rfl rfl (by unfold maxLen; simp))).mono ?_
  rintro r w6 ⟨rfl, hb⟩
  have B7 := Lib.hid (B6.out.trans (hb.mono B6.out.size))
  clear hb B5 X6 B6
  go_wp2_with fail
  have X8 := Lib.hid (below_built w6 (.cells #[.string t, .string y] 9))
  have B8 := Lib.hid (B7.out.trans (X8.out.mono B7.out.size))
  refine (M2.out _ _ (H.out.below B8.out) (strs_built w6 [t, y] _ _ rfl rfl (by unfold maxLen; simp))).mono ?_
  rintro r w7 ⟨rfl, hb⟩
  have B9 := Lib.hid (B8.out.trans (hb.mono B8.out.size))
  clear hb B7 X8 B8
  by_cases hp : p = 0
  · subst hp
    by_cases hq : q = 0
    · subst hq
      have kl := KL.out rfl rfl
      go_wp2_with fail
      go_ret
      exact ⟨rfl, B9.out⟩
    · have gq : (q != 0) = true := bne_iff_ne.2 hq
      clear hq
      go_wp2_with fail
      go_ret
      exact ⟨rfl, B9.out⟩
  · have gp : (p != 0) = true := bne_iff_ne.2 hp
    clear hp
    go_wp2_with fail
    go_ret
    exact ⟨rfl, B9.out⟩
set_option maxHeartbeats 8000000 in
set_option maxRecDepth 100000 in
theorem numbers_down (m n : Int) (t : ByteArray) (w : World) (hM : HasM w) (hm : m ≤ 9223372036854775807) (hn : n ≤ 9223372036854775807) (hmn : m < 0 ∨ n < 0) :
    Calls Tryd.prog 8 #[.int .i64 m, .int .i64 n, .string t] w fun e w' => e = .returned (.bool true) ∧ Below w.heap.size w w' := by
  have FX := Lib.hid (fixed_ok w hM)
  have NU : Hid (∀ (z : Int), z ≤ 9223372036854775807 → ∃ x e, (∀ W, Calls Tryd.prog 19 #[.int .i64 z] W fun r w' => r = .returned (.tuple #[.string x, .int .i64 e]) ∧ Below W.heap.size W w') ∧ ((z < 0 ∧ e = 1 ∧ x = ⟨#[]⟩) ∨ (0 ≤ z ∧ e = 0))) := Lib.hid fun z hz => by
    by_cases h : z < 0
    · exact ⟨⟨#[]⟩, 1, fun W => number_down z W h, .inl ⟨h, rfl, rfl⟩⟩
    · obtain ⟨k, rfl⟩ := Int.eq_ofNat_of_zero_le (show 0 ≤ z by omega)
      exact ⟨txt (num 8 k), 0, fun W => number_up k W (by omega), .inr ⟨by omega, rfl⟩⟩
  obtain ⟨x, e, C1, D1⟩ := NU.out m hm
  obtain ⟨y, f, C2, D2⟩ := NU.out n hn
  have N1 := Lib.hid C1
  have N2 := Lib.hid C2
  clear C1 C2 NU hm hn hM
  have se : ((⟨#[]⟩ : ByteArray).toList == (⟨#[]⟩ : ByteArray).toList) = true := eqB _ _ rfl
  rcases D1 with ⟨m0, rfl, rfl⟩ | ⟨m0, rfl⟩
  · have gm : decide (m ≥ 0) = false := decide_eq_false (by omega)
    have lm : decide (m < 0) = true := decide_eq_true (by omega)
    rcases D2 with ⟨n0, rfl, rfl⟩ | ⟨n0, rfl⟩
    · have gn : decide (n ≥ 0) = false := decide_eq_false (by omega)
      have ln : decide (n < 0) = true := decide_eq_true (by omega)
      clear hmn m0 n0
      go_enter Tryd.func8, Tryd.ntmps8
      go_wp2_with fail
      refine FX.out.mono ?_
      rintro r w1 ⟨rfl, hb⟩
      have B1 := Lib.hid hb
      clear hb FX
      go_wp2_with fail
      refine (N1.out w1).mono ?_
      rintro r w2 ⟨rfl, hb⟩
      have B2 := Lib.hid (B1.out.trans (hb.mono B1.out.size))
      clear hb B1
      go_wp2_with fail
      refine (N2.out w2).mono ?_
      rintro r w3 ⟨rfl, hb⟩
      have B3 := Lib.hid (B2.out.trans (hb.mono B2.out.size))
      clear hb B2
      go_wp2_with fail
      go_ret
      exact ⟨rfl, B3.out⟩
    · have gn : decide (n ≥ 0) = true := decide_eq_true (by omega)
      have ln : decide (n < 0) = false := decide_eq_false (by omega)
      clear hmn m0 n0
      go_enter Tryd.func8, Tryd.ntmps8
      go_wp2_with fail
      refine FX.out.mono ?_
      rintro r w1 ⟨rfl, hb⟩
      have B1 := Lib.hid hb
      clear hb FX
      go_wp2_with fail
      refine (N1.out w1).mono ?_
      rintro r w2 ⟨rfl, hb⟩
      have B2 := Lib.hid (B1.out.trans (hb.mono B1.out.size))
      clear hb B1
      go_wp2_with fail
      refine (N2.out w2).mono ?_
      rintro r w3 ⟨rfl, hb⟩
      have B3 := Lib.hid (B2.out.trans (hb.mono B2.out.size))
      clear hb B2
      go_wp2_with fail
      go_ret
      exact ⟨rfl, B3.out⟩
  · have gm : decide (m ≥ 0) = true := decide_eq_true (by omega)
    have lm : decide (m < 0) = false := decide_eq_false (by omega)
    rcases D2 with ⟨n0, rfl, rfl⟩ | ⟨n0, rfl⟩
    · have gn : decide (n ≥ 0) = false := decide_eq_false (by omega)
      have ln : decide (n < 0) = true := decide_eq_true (by omega)
      clear hmn m0 n0
      go_enter Tryd.func8, Tryd.ntmps8
      go_wp2_with fail
      refine FX.out.mono ?_
      rintro r w1 ⟨rfl, hb⟩
      have B1 := Lib.hid hb
      clear hb FX
      go_wp2_with fail
      refine (N1.out w1).mono ?_
      rintro r w2 ⟨rfl, hb⟩
      have B2 := Lib.hid (B1.out.trans (hb.mono B1.out.size))
      clear hb B1
      go_wp2_with fail
      refine (N2.out w2).mono ?_
      rintro r w3 ⟨rfl, hb⟩
      have B3 := Lib.hid (B2.out.trans (hb.mono B2.out.size))
      clear hb B2
      go_wp2_with fail
      go_ret
      exact ⟨rfl, B3.out⟩
    · exfalso; omega
theorem keyNumbers_walk (m n : Int) (t : ByteArray) (w : World) (hM : HasM w) (hm : -9223372036854775808 ≤ m ∧ m ≤ 9223372036854775807) (hn : -9223372036854775808 ≤ n ∧ n ≤ 9223372036854775807) (ht : t.size ≤ 140737488351232) :
    Calls Tryd.prog 8 #[.int .i64 m, .int .i64 n, .string t] w fun e w' => e = .returned (.bool true) ∧ Below w.heap.size w w' := by
  by_cases h : m < 0 ∨ n < 0
  · exact numbers_down m n t w hM hm.2 hn.2 h
  · obtain ⟨a, rfl⟩ := Int.eq_ofNat_of_zero_le (show 0 ≤ m by omega)
    obtain ⟨b, rfl⟩ := Int.eq_ofNat_of_zero_le (show 0 ≤ n by omega)
    exact numbers_up a b t w hM (by omega) (by omega) ht
end Go.Proofs.YtggpiikiplogmaaDoor
