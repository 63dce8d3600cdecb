/-
  THE WALK of KeyBetween.
-/
import Derived.Test.YtggpiikiplogmaaDoorFixed
import Derived.Test.YtggpiikiplogmaaDoorBtw
import Derived.RegionTactic
import Derived.Deep.RegionLaw
import Derived.Lib.QuietBelow
namespace Go.Proofs.YtggpiikiplogmaaDoor
open Go.RowKit
theorem txt_app (l m : List UInt8) : txt l ++ txt m = txt (l ++ m) := by
  apply ByteArray.ext
  simp [txt]
theorem txt_take (l : List UInt8) (k : Nat) : (txt l).extract 0 k = txt (l.take k) := by
  apply ByteArray.ext
  simp [txt, ByteArray.data_extract]
theorem conv_one (W : World) (n : Int) (c : UInt8) (h : n = c8 c) : (convert 26 9 (.slice (some ⟨W.heap.size, 0, none⟩) 1 1)).run Tryd.prog (W.alloc (.cells #[.int .u8 n] 5)) = .ok (.string (txt [c])) (W.alloc (.cells #[.int .u8 n] 5)) := by
  subst h
  refine convT ⟨_, 1, rfl, by simp, by decide, (fun h => by cases h), fun k hk => ⟨W.heap.size, 0, rfl, ?_⟩⟩
  have : k = 0 := by simpa using hk
  subst this
  rw [World.cell?_alloc_new]
  rfl
theorem conv_one_drew (W : World) (n : Int) (c : UInt8) (h : n = c8 c) : (convert 26 9 (.slice (some ⟨W.heap.size, 0, none⟩) 1 1)).run Tryd.prog (W.alloc (.cells #[.int .u8 n] 5)).drew = .ok (.string (txt [c])) (W.alloc (.cells #[.int .u8 n] 5)).drew := by
  subst h
  refine convT ⟨_, 1, rfl, by simp, by decide, (fun h => by cases h), fun k hk => ⟨W.heap.size, 0, rfl, ?_⟩⟩
  have : k = 0 := by simpa using hk
  subst this
  show (W.alloc (.cells #[.int .u8 (c8 c)] 5)).cell? ⟨W.heap.size, 0 + 0, none⟩ = _
  rw [World.cell?_alloc_new]
  rfl
set_option maxHeartbeats 8000000 in
set_option maxRecDepth 100000 in
theorem between_none (a b : ByteArray) (p d : Int) (t : ByteArray) (w : World) (hm : HasM w) (ha : a.size ≤ 140737488351232) (hb : b.size ≤ 140737488351232) (hl : bl a.data.toList b.data.toList = false) :
    Calls Tryd.prog 3 #[.string a, .string b, .int .i64 p, .int .i64 d, .string t] w fun e w' => e = .returned (.bool true) ∧ Below w.heap.size w w' := by
  have FX := Lib.hid (fixed_ok w hm)
  have BT : Hid (∀ W, Calls Tryd.prog 10 #[.string a, .string b] W fun e w' => e = .returned (.tuple #[.string ⟨#[]⟩, .int .i64 1]) ∧ Below W.heap.size W w') := Lib.hid fun W => by
    have := between_any a b W ha hb
    rw [show btwR a b = (⟨#[]⟩, 1) by unfold btwR; rw [if_neg (by rw [hl]; simp)]] at this
    exact this
  have g := less_form a b hl
  have ee : ((⟨#[]⟩ : ByteArray).toList == (⟨#[]⟩ : ByteArray).toList) = true := eqB _ _ rfl
  clear hl hm
  go_enter Tryd.func3, Tryd.ntmps3
  go_wp2_with fail
  refine FX.out.mono ?_
  rintro r w1 ⟨rfl, hb⟩
  have B1 := Lib.hid hb
  clear hb FX
  go_wp2_with fail
  refine (BT.out w1).mono ?_
  rintro r w2 ⟨rfl, hb⟩
  have B2 := Lib.hid (B1.out.trans (hb.mono B1.out.size))
  clear hb B1
  go_wp2_with fail
  go_ret
  exact ⟨rfl, B2.out⟩
set_option maxHeartbeats 8000000 in
set_option maxRecDepth 100000 in
theorem between_some (a b : ByteArray) (p d : Int) (t : ByteArray) (w : World) (hm : HasM w) (ha : a.size ≤ 140737488351232) (hb : b.size ≤ 140737488351232) (hl : bl a.data.toList b.data.toList = true) (hd : -9223372036854775808 ≤ d ∧ d ≤ 9223372036854775807) (ht : t.size ≤ 140737488351232) :
    Calls Tryd.prog 3 #[.string a, .string b, .int .i64 p, .int .i64 d, .string t] w fun e w' => e = .returned (.bool true) ∧ Below w.heap.size w w' := by
  have FX := Lib.hid (fixed_ok w hm)
  obtain ⟨S, hS⟩ : ∃ S, S = btw a.data.toList b.data.toList := ⟨_, rfl⟩
  have BT : Hid (∀ W, Calls Tryd.prog 10 #[.string a, .string b] W fun e w' => e = .returned (.tuple #[.string (txt S), .int .i64 0]) ∧ Below W.heap.size W w') := Lib.hid fun W => by
    have := between_any a b W ha hb
    rw [show btwR a b = (txt S, 0) by unfold btwR; rw [if_pos hl, hS]] at this
    exact this
  have g := less_form a b hl
  obtain ⟨s1, s2⟩ := btw_spec a.data.toList b.data.toList hl
  rw [← hS] at s1 s2
  have q1 : Op.bytesLess (txt S).toList a.toList = false := by rw [list_of_bytes, list_of_bytes, txt_list]; exact bl_asymm _ _ s1
  have q2 : ((txt S).toList == a.toList) = false := by
    rw [list_of_bytes, list_of_bytes, txt_list, beq_eq_false_iff_ne]
    intro e
    rw [e, bl_refl] at s1
    cases s1
  have q3 : (Op.bytesLess (txt S).toList b.toList || ((txt S).toList == b.toList)) = true := by
    rw [list_of_bytes, list_of_bytes, txt_list]
    cases h1 : Op.bytesLess S b.data.toList with
    | true => rfl
    | false => rw [bl_total _ _ h1 s2]; simp
  have sl : S.length ≤ 140737488351233 := by
    rw [hS, btw_length]
    have := (agr_le a.data.toList b.data.toList).1
    rw [len_data] at this
    omega
  have CUT : Hid (∀ k, k < S.length → Op.bytesLess a.toList (txt (S.take k)).toList = false) := Lib.hid fun k hk => by
    rw [list_of_bytes, list_of_bytes, txt_list, hS]
    exact btw_cut _ _ k (by rw [← hS]; exact hk)
  have LESS : Hid (∀ k (c : UInt8) l, k < S.length → c < S.getD k 0 → (S.take k ++ c :: l).length = S.length → Op.bytesLess a.toList (txt (S.take k ++ c :: l)).toList = false) := Lib.hid fun k c l hk hc hlen => by
    rw [list_of_bytes, list_of_bytes, txt_list]
    rw [hS] at hk hc hlen ⊢
    exact btw_less _ _ k c l hk hc hlen
  have zs : (txt S).size = S.length := txt_size S
  clear hS s1 s2 hl hm
  go_enter Tryd.func3, Tryd.ntmps3
  go_wp2_with fail
  refine FX.out.mono ?_
  rintro r w1 ⟨rfl, hb⟩
  have B1 := Lib.hid hb
  clear hb FX
  go_wp2_with fail
  refine (BT.out w1).mono ?_
  rintro r w2 ⟨rfl, hb⟩
  have B2 := Lib.hid (B1.out.trans (hb.mono B1.out.size))
  clear hb B1
  by_cases p0 : p < 0
  · have gp : decide (p < 0) = true := decide_eq_true p0
    clear p0
    go_wp2_with fail
    go_ret
    exact ⟨rfl, B2.out⟩
  have gp : decide (p < 0) = false := decide_eq_false p0
  obtain ⟨k, rfl⟩ := Int.eq_ofNat_of_zero_le (show 0 ≤ p by omega)
  by_cases pn : S.length ≤ k
  · have gn : decide ((k : Int) ≥ (S.length : Int)) = true := decide_eq_true (by omega)
    clear p0
    go_wp2_with fail
    go_ret
    exact ⟨rfl, B2.out⟩
  have gn : decide ((k : Int) ≥ (S.length : Int)) = false := decide_eq_false (by omega)
  have hk : k < S.length := by omega
  have hks : k < (txt S).size := by rw [zs]; exact hk
  have cut := CUT.out k hk
  rw [← txt_take] at cut
  clear p0 pn
  by_cases d1 : d < 1
  · have gd : decide (d < 1) = true := decide_eq_true d1
    clear d1
    go_wp2_with fail
    go_ret
    exact ⟨rfl, B2.out⟩
  have gd : decide (d < 1) = false := decide_eq_false d1
  obtain ⟨dn, rfl⟩ := Int.eq_ofNat_of_zero_le (show 0 ≤ d by omega)
  have SB : Hid ((txt S)[k]'hks = S.getD k 0) := Lib.hid (by rw [← byte_getD (txt S) k hks, txt_list])
  by_cases d2 : ((txt S)[k]'hks).toNat < dn
  · have ge : decide ((dn : Int) > wrap64 (((txt S)[k]'hks).toNat : Int)) = true := decide_eq_true (by
      have := ((txt S)[k]'hks).toNat_lt
      unfold wrap64
      omega)
    clear d1
    go_wp2_with fail
    go_ret
    exact ⟨rfl, B2.out⟩
  have ge : decide ((dn : Int) > wrap64 (((txt S)[k]'hks).toNat : Int)) = false := decide_eq_false (by
    have := ((txt S)[k]'hks).toNat_lt
    unfold wrap64
    omega)
  obtain ⟨c, hc⟩ : ∃ c, c = UInt8.ofNat (((txt S)[k]'hks).toNat - dn) := ⟨_, rfl⟩
  have cl : ((txt S)[k]'hks).toNat < 256 := ((txt S)[k]'hks).toNat_lt
  have c1 : c.toNat = ((txt S)[k]'hks).toNat - dn := by
    rw [hc, UInt8.toNat_ofNat']
    omega
  have c2 : ((((txt S)[k]'hks).toNat : Int) - (dn : Int)) = c8 c := by
    unfold c8
    omega
  have CL : Hid (c < S.getD k 0) := Lib.hid (by
    rw [← SB.out]
    refine UInt8.lt_iff_toNat_lt.2 ?_
    omega)
  have hcv := conv_one_drew w2 ((((txt S)[k]'hks).toNat : Int) - (dn : Int)) c c2
  have tk : (txt S).extract 0 k ++ txt [c] = txt (S.take k ++ [c]) := by rw [txt_take, txt_app]
  have tz : ((txt S).extract 0 k).size = k := by rw [txt_take, txt_size, List.length_take]; omega
  have oz : (txt [c]).size = 1 := rfl
  clear hc c1 c2
  go_wp2_with fail
  go_region
  have B3 : Hid (Below w.heap.size w (w2.alloc (.cells #[.int .u8 ((((txt S)[k]'hks).toNat : Int) - (dn : Int))] 5)).drew) := Lib.hid (B2.out.alloc B2.out.size _).drew
  obtain ⟨w3, hw3⟩ : ∃ w3, w3 = (w2.alloc (.cells #[.int .u8 ((((txt S)[k]'hks).toNat : Int) - (dn : Int))] 5)).drew := ⟨_, rfl⟩
  rw [← hw3] at B3 ⊢
  clear hw3 hcv tk tz oz cl d1 d2 ge gd gp gn cut
  go_wp2_with fail
  go_loopg [16, 17] (S.length - (k + 1)) (fun g s16 s17 wr => ∃ (l : List UInt8), k + 1 + l.length ≤ S.length ∧ g = S.length - (k + 1 + l.length) ∧ s16 = .string (txt (S.take k ++ c :: l)) ∧ s17 = .int .i64 (l.length : Int) ∧ Below w.heap.size w wr)
  case atStart => exact ⟨[], by simp; omega, rfl, rfl, rfl, B3.out⟩
  case round =>
    obtain ⟨l, hl, hg, rfl, rfl, hb⟩ := hrel
    have R : Hid (gk = S.length - (k + 1 + l.length) ∧ Below w.heap.size w wr) := ⟨hg, hb⟩
    clear hg hb
    have ll : (S.take k ++ c :: l).length = k + 1 + l.length := by rw [List.length_append, List.length_take, List.length_cons]; omega
    obtain ⟨x, hx⟩ : ∃ x, x = txt (S.take k ++ c :: l) := ⟨_, rfl⟩
    have xz : x.size = k + 1 + l.length := by rw [hx, txt_size, ll]
    rw [← hx]
    have X := Lib.hid hx
    obtain ⟨m, hm⟩ : ∃ m, m = l.length := ⟨_, rfl⟩
    rw [← hm] at xz hl ⊢
    have M := Lib.hid hm
    clear ll hx hm
    by_cases hlt : k + 1 + m < S.length
    · have g1 : decide ((x.size : Int) < (S.length : Int)) = true := decide_eq_true (by omega)
      by_cases hlm : m < t.size
      · have hcv := conv_one wr ((t[m]'hlm).toNat : Int) (t[m]'hlm) rfl
        have hlm' : (m : Int) < (t.size : Int) := by omega
        have cc : x ++ txt [t[m]'hlm] = txt (S.take k ++ c :: (l ++ [t[m]'hlm])) := by rw [X.out, txt_app]; simp
        have CC := Lib.hid cc
        have oz : (txt [t[m]'hlm]).size = 1 := rfl
        clear cc
        go_wp2_with fail
        go_roundg (S.length - (k + 1 + (m + 1)))
        case measure => have := R.out.1; have := M.out; omega
        case rel =>
          refine ⟨l ++ [t[m]'hlm], ?_, ?_, ?_, ?_, R.out.2.alloc R.out.2.size _⟩
          · rw [List.length_append, List.length_singleton, ← M.out]; omega
          · rw [List.length_append, List.length_singleton, ← M.out]
          · rw [← CC.out]
          · rw [List.length_append, List.length_singleton, ← M.out]; go_num
      · have hcv := conv_one wr 255 255 rfl
        have cc : x ++ txt [255] = txt (S.take k ++ c :: (l ++ [255])) := by rw [X.out, txt_app]; simp
        have CC := Lib.hid cc
        have oz : (txt [255]).size = 1 := rfl
        clear cc
        go_wp2_with fail
        go_roundg (S.length - (k + 1 + (m + 1)))
        case measure => have := R.out.1; have := M.out; omega
        case rel =>
          refine ⟨l ++ [255], ?_, ?_, ?_, ?_, R.out.2.alloc R.out.2.size _⟩
          · rw [List.length_append, List.length_singleton, ← M.out]; omega
          · rw [List.length_append, List.length_singleton, ← M.out]
          · rw [← CC.out]
          · rw [List.length_append, List.length_singleton, ← M.out]; go_num
    · have g1 : decide ((x.size : Int) < (S.length : Int)) = false := decide_eq_false (by omega)
      have le := LESS.out k c l hk CL.out (by rw [List.length_append, List.length_take, List.length_cons]; have := M.out; omega)
      rw [← X.out] at le
      go_wp2_with fail
      go_ret
      exact ⟨rfl, R.out.2⟩
theorem keyBetween_walk (a b : ByteArray) (p d : Int) (t : ByteArray) (w : World) (hm : HasM w) (ha : a.size ≤ 140737488351232) (hb : b.size ≤ 140737488351232) (_ : -9223372036854775808 ≤ p ∧ p ≤ 9223372036854775807) (hd : -9223372036854775808 ≤ d ∧ d ≤ 9223372036854775807) (ht : t.size ≤ 140737488351232) :
    Calls Tryd.prog 3 #[.string a, .string b, .int .i64 p, .int .i64 d, .string t] w fun e w' => e = .returned (.bool true) ∧ Below w.heap.size w w' := by
  cases hl : bl a.data.toList b.data.toList with
  | false => exact between_none a b p d t w hm ha hb hl
  | true => exact between_some a b p d t w hm ha hb hl hd ht
end Go.Proofs.YtggpiikiplogmaaDoor
