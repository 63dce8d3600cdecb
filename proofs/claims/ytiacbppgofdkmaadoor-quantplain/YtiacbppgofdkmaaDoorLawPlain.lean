/-
  THE WALK of QuantPlain.
-/
import Derived.Test.YtiacbppgofdkmaaDoorParseA
import Derived.Test.YtiacbppgofdkmaaDoorPrintN
import Derived.Test.YtiacbppgofdkmaaDoorKnownK
namespace Go.Proofs.YtiacbppgofdkmaaDoor
open Go.RowKit Go.Lib
theorem parse_cases (t : ByteArray) : ((parseR t).2 = 0 ∧ ∃ v : Nat, (parseR t).1 = v ∧ v < 9223372036854775808) ∨ ((parseR t).1 = 0 ∧ ((parseR t).2 = 30 ∨ (parseR t).2 = 7)) := by
  unfold parseR
  split
  · unfold timesT
    split
    · rename_i h
      exact Or.inl ⟨rfl, _, rfl, by omega⟩
    · exact Or.inr ⟨rfl, Or.inr rfl⟩
  · exact Or.inr ⟨rfl, Or.inl rfl⟩
theorem sufN_ten : ∀ i : Nat, i < 12 → sufN i ≠ 1 → 1000 ≤ sufN i := by decide
theorem sufT_one : ∀ i : Nat, i < 12 → sufN i = 1 → (sufT i).size = 1 := by decide
theorem times_1 (v : Nat) (hv : v < 9223372036854775808) : timesT v 1 = ((v : Int), 0) := by
  have e : ceilT v 1 = v := by unfold ceilT; simp [Nat.mod_one]
  unfold timesT
  rw [e, if_pos (by omega)]
theorem zero_data (m i : Nat) : ((⟨#[48]⟩ : ByteArray) ++ (dig m ++ sufT i)).data.toList = (48 :: decDigits m) ++ (sufT i).data.toList := by
  rw [ByteArray.data_append, Array.toList_append, text_data]; rfl
theorem zero_text (m i v : Nat) (hi : i < 12) (hv : m * sufN i = v) (hm : v < 9223372036854775808) :
    parseR ((⟨#[48]⟩ : ByteArray) ++ (dig m ++ sufT i)) = if (decDigits m).length ≤ 18 then ((v : Int), 0) else (0, 30) := by
  have hall : ∀ c ∈ 48 :: decDigits m, isD c = true := by
    intro c hc
    rcases List.mem_cons.1 hc with rfl | h
    · decide
    · exact digs_has c (dec_digits m c h)
  have hR : pR ((⟨#[48]⟩ : ByteArray) ++ (dig m ++ sufT i)) = (sufT i).data.toList := by
    unfold pR rst
    rw [zero_data]
    exact dropWhile_all _ _ hall (suf_head i hi)
  have hW : pW ((⟨#[48]⟩ : ByteArray) ++ (dig m ++ sufT i)) = 48 :: decDigits m := by
    have h := dgs_rst ((⟨#[48]⟩ : ByteArray) ++ (dig m ++ sufT i)).data.toList
    have hR' : rst ((⟨#[48]⟩ : ByteArray) ++ (dig m ++ sufT i)).data.toList = (sufT i).data.toList := hR
    rw [hR', zero_data] at h
    have := List.append_cancel_right h
    unfold pW
    rw [zero_data]; exact this
  have hD : pD ((⟨#[48]⟩ : ByteArray) ++ (dig m ++ sufT i)) = false := by unfold pD; rw [hR]; exact (suf_dot i hi).1
  have hP : pP ((⟨#[48]⟩ : ByteArray) ++ (dig m ++ sufT i)) = [] := by unfold pP; rw [hD]; rfl
  have hF : pF ((⟨#[48]⟩ : ByteArray) ++ (dig m ++ sufT i)) = sufN i := by
    unfold pF pS
    rw [hD, if_neg (by decide), hR]
    have e : (⟨(sufT i).data.toList.toArray⟩ : ByteArray) = sufT i := by cases sufT i; simp
    rw [e]; exact facR_of i hi
  unfold parseR
  by_cases h : (decDigits m).length ≤ 18
  · rw [if_pos h, if_pos, hW, hP, hF, List.append_nil]
    · have e : numOf (48 :: decDigits m) = m := by
        have q : numOf (48 :: decDigits m) = numOf (decDigits m) := by unfold numOf; rfl
        rw [q, numOf_dec]
      rw [e, hv]
      exact times_1 v hm
    · unfold pOk
      refine ⟨?_, ?_, ?_, ?_⟩
      · rw [hW]; simp
      · rw [hD]; intro c; cases c
      · rw [hF]; have := (sufN_pos i hi).1; omega
      · rw [hW, hP]; simp; omega
  · rw [if_neg h, if_neg]
    rintro ⟨-, -, -, q⟩
    rw [hW, hP] at q
    simp at q
    omega
set_option maxHeartbeats 8000000 in
set_option maxRecDepth 100000 in
theorem quantPlain_walk (t : ByteArray) (w : World) (G : Glob w) (ht : t.size ≤ 140737488351232) :
    Calls Tryd.prog 3 #[.string t] w fun e w' => e = .returned (.bool true) ∧ Below w.heap.size w w' := by
  have K := Lib.hid (known_ok w G)
  have GG := Lib.hid G
  clear G
  have PA : Hid (∀ W, Below w.heap.size w W → Calls Tryd.prog 10 #[.string t] W fun e w' => e = .returned (.tuple #[.int .i64 (parseR t).1, .int .i64 (parseR t).2]) ∧ Below W.heap.size W w') := Lib.hid fun W hb => parse_any t (by omega) W (GG.out.below hb).1
  have PC := Lib.hid (parse_cases t)
  clear ht
  obtain ⟨a, ha⟩ : ∃ a, a = (parseR t).1 := ⟨_, rfl⟩
  obtain ⟨b, hbb⟩ : ∃ b, b = (parseR t).2 := ⟨_, rfl⟩
  rw [← ha, ← hbb] at PA PC
  clear ha hbb
  go_enter Tryd.func3, Tryd.ntmps3
  go_wp2_with fail
  refine K.out.mono ?_
  rintro e w1 ⟨rfl, hb⟩
  have B1 := Lib.hid hb
  clear hb K
  go_wp2_with fail
  refine (PA.out w1 B1.out).mono ?_
  rintro e w2 ⟨rfl, hb⟩
  have B2 := Lib.hid (B1.out.trans (hb.mono B1.out.size))
  clear hb PA
  rcases PC.out with ⟨hb0, v, hv, hvl⟩ | ⟨ha0, h30 | h7⟩
  · subst hb0 hv
    obtain ⟨⟨i, hi, hm, he⟩, hmin⟩ := best_spec v 12 (by omega) (by omega)
    have M : Hid ((v / sufN i) * sufN i = v) := Lib.hid (Nat.div_mul_cancel (Nat.dvd_of_mod_eq_zero hm))
    have DL : Hid ((decDigits (v / sufN i)).length ≤ 19) := Lib.hid (dec_le 18 _ (Nat.lt_of_le_of_lt (Nat.div_le_self v _) (Nat.lt_of_lt_of_le hvl (by decide))))
    obtain ⟨m, hmm⟩ : ∃ m, m = v / sufN i := ⟨_, rfl⟩
    rw [← hmm] at M DL he
    obtain ⟨s, hs⟩ : ∃ s, s = best v 12 := ⟨_, rfl⟩
    rw [← hs] at he
    have S : Hid (s = best v 12 ∧ s = dig m ++ sufT i ∧ i < 12 ∧ v < 9223372036854775808) := Lib.hid ⟨hs, he, hi, hvl⟩
    have SS : Hid (s.size = (decDigits m).length + (sufT i).size ∧ (sufT i).size ≤ 2) := Lib.hid ⟨by rw [he]; exact text_size m i, sufT_len i hi⟩
    have PR : Hid (∀ W, Below w.heap.size w W → Calls Tryd.prog 11 #[.int .i64 v] W fun e w' => e = .returned (.string s) ∧ Below W.heap.size W w') := Lib.hid fun W hb => by rw [hs]; exact print_any v hvl W (GG.out.below hb).1 (GG.out.below hb).2
    have PS : Hid (∀ W, Below w.heap.size w W → Calls Tryd.prog 10 #[.string s] W fun e w' => e = .returned (.tuple #[.int .i64 v, .int .i64 0]) ∧ Below W.heap.size W w') := Lib.hid fun W hb => by rw [he]; exact parse_dig m i v hi M.out hvl DL.out W (GG.out.below hb).1
    have ZR := Lib.hid (zero_text m i v hi M.out hvl)
    have PZ : Hid (∀ W, Below w.heap.size w W → Calls Tryd.prog 10 #[.string (⟨#[48]⟩ ++ s)] W fun e w' => e = .returned (.tuple #[.int .i64 (parseR (⟨#[48]⟩ ++ s)).1, .int .i64 (parseR (⟨#[48]⟩ ++ s)).2]) ∧ Below W.heap.size W w') := Lib.hid fun W hb => parse_any _ (by
      have := SS.out
      have := DL.out
      rw [ByteArray.size_append]
      have z : (⟨#[48]⟩ : ByteArray).size = 1 := rfl
      omega) W (GG.out.below hb).1
    rw [← he] at ZR
    have sz : ¬ (9223372036854775807 < (⟨#[48]⟩ : ByteArray).size + s.size) := by
      have := SS.out
      have := DL.out
      have z : (⟨#[48]⟩ : ByteArray).size = 1 := rfl
      omega
    have sz2 : ¬ (9223372036854775807 < 1 + s.size) := sz
    clear hs he hm hmin hmm hi hvl PC
    have ge : ((v : Int) == (v : Int)) = true := by simp
    have gs : (s.toList == s.toList) = true := by simp
    go_wp2_with fail
    refine (PR.out w2 B2.out).mono ?_
    rintro e w3 ⟨rfl, hb⟩
    have B3 := Lib.hid (B2.out.trans (hb.mono B2.out.size))
    clear hb
    go_wp2_with fail
    refine (PS.out w3 B3.out).mono ?_
    rintro e w4 ⟨rfl, hb⟩
    have B4 := Lib.hid (B3.out.trans (hb.mono B3.out.size))
    clear hb PS
    go_wp2_with fail
    refine (PR.out w4 B4.out).mono ?_
    rintro e w5 ⟨rfl, hb⟩
    have B5 := Lib.hid (B4.out.trans (hb.mono B4.out.size))
    clear hb PR
    by_cases hl : (decDigits m).length ≤ 18
    · rw [if_pos hl] at ZR
      rw [ZR.out] at PZ
      simp only at PZ
      clear hl ZR
      go_wp2_with fail
      refine (PZ.out w5 B5.out).mono ?_
      rintro e w6 ⟨rfl, hb⟩
      have B6 := Lib.hid (B5.out.trans (hb.mono B5.out.size))
      clear hb PZ
      go_wp2_with fail
      go_ret
      exact ⟨rfl, B6.out⟩
    · rw [if_neg hl] at ZR
      rw [ZR.out] at PZ
      simp only at PZ
      have s20 : s.size = 20 := by
        have h19 := DL.out
        have hsi : sufN i = 1 := by
          have hm1 : 10 ^ 18 ≤ m := by
            apply Classical.byContradiction
            intro q
            have := dec_le 17 m (by omega)
            omega
          have hp := (sufN_pos i S.out.2.2.1).1
          have h2 := M.out
          have h3 := S.out.2.2.2
          apply Classical.byContradiction
          intro q
          have q2 := sufN_ten i S.out.2.2.1 q
          have q3 : m * 1000 ≤ m * sufN i := Nat.mul_le_mul_left m q2
          have e18 : (10 : Nat) ^ 18 = 1000000000000000000 := by decide
          omega
        have hi0 : (sufT i).size = 1 := sufT_one i S.out.2.2.1 hsi
        have := SS.out.1
        omega
      clear hl ZR
      go_wp2_with fail
      refine (PZ.out w5 B5.out).mono ?_
      rintro e w6 ⟨rfl, hb⟩
      have B6 := Lib.hid (B5.out.trans (hb.mono B5.out.size))
      clear hb PZ
      go_wp2_with fail
      go_ret
      exact ⟨rfl, B6.out⟩
  · subst ha0 h30
    go_wp2_with fail
    go_ret
    exact ⟨rfl, B2.out⟩
  · subst ha0 h7
    go_wp2_with fail
    go_ret
    exact ⟨rfl, B2.out⟩
end Go.Proofs.YtiacbppgofdkmaaDoor
