/-
  THE WALK of QuantMeans.
-/
import Derived.Test.YtiacbppgofdkmaaDoorMeanM
import Derived.Test.YtiacbppgofdkmaaDoorFmtI
import Derived.Test.YtiacbppgofdkmaaDoorKnownK
import Derived.RegionTactic
import Derived.BigQuiet
import Derived.Deep.QuietTactic
import Derived.Lib.QuietBelow
namespace Go.Proofs.YtiacbppgofdkmaaDoor
open Go.RowKit Go.Lib
theorem wrap64_small {x : Int} (h : 0 ≤ x) (h2 : x < 1000) : wrap64 x = x := by
  unfold wrap64
  omega
theorem u64_rem (x : Int) (m : Nat) (hm : 0 < m) : ∃ i : Nat, i < m ∧ (IntKind.u64.wrap x).tmod m = i := by
  have h0 : 0 ≤ IntKind.u64.wrap x := by
    unfold IntKind.wrap
    simp [IntKind.bits, IntKind.signed]
    omega
  refine ⟨((IntKind.u64.wrap x) % m).toNat, ?_, ?_⟩
  · have := Int.emod_lt_of_pos (IntKind.u64.wrap x) (b := (m : Int)) (by omega)
    have := Int.emod_nonneg (IntKind.u64.wrap x) (b := (m : Int)) (by omega)
    omega
  · rw [Int.tmod_eq_emod_of_nonneg h0]
    have := Int.emod_nonneg (IntKind.u64.wrap x) (b := (m : Int)) (by omega)
    omega
theorem facN_le : ∀ i : Nat, i < 11 → facN i ≤ 1125899906842624 ∧ sufN (i + 1) = facN i * 1000 := by decide
theorem wrap_u {x : Int} (h : 0 ≤ x) (h2 : x < 18446744073709551616) : IntKind.u64.wrap x = x := by
  unfold IntKind.wrap
  simp [IntKind.bits, IntKind.signed]
  omega
theorem mn_val {X ten q r : Nat} (hq : q = X / ten) (hr : r = X % ten) : timesT X ten = if r = 0 then (if q ≤ 9223372036854775807 then ((q : Int), 0) else (0, 7)) else (if q + 1 ≤ 9223372036854775807 then (((q + 1 : Nat) : Int), 0) else (0, 7)) := by
  unfold timesT ceilT
  rw [← hq, ← hr]
  by_cases h : r = 0
  · rw [if_pos h, if_neg (by omega : ¬ 0 < r), Nat.add_zero]
  · rw [if_neg h, if_pos (by omega : 0 < r)]
theorem fac_cell {w : World} {b c : Nat} (h : Facs w b c) (i : Nat) (hi : i < 11) : w.cell? ⟨b, i, none⟩ = some (.string (sufT (i + 1))) ∧ w.cell? ⟨c, i, none⟩ = some (.int .i64 (facN i)) := h i hi
set_option maxHeartbeats 8000000 in
set_option maxRecDepth 100000 in
theorem quantMeans_nat (n fr : Nat) (dI wI : Int) (w : World) (G : Glob w) (hn : n < 4294967296) (hf : fr < 4294967296) :
    Calls Tryd.prog 4 #[.int .u32 n, .int .u32 fr, .int .i64 dI, .int .i64 wI] w fun e w' => e = .returned (.bool true) ∧ Below w.heap.size w w' := by
  have K := Lib.hid (known_ok w G)
  have GG := Lib.hid G
  clear G
  go_enter Tryd.func4, Tryd.ntmps4
  go_wp2_with fail
  refine K.out.mono ?_
  rintro e w1 ⟨rfl, hb⟩
  have B1 := Lib.hid hb
  clear hb K
  go_wp2_with fail
  refine (factors_ok w1).mono ?_
  rintro e w2 ⟨b, c, rfl, hb, hfc⟩
  have B2 := Lib.hid (B1.out.trans (hb.mono B1.out.size))
  have F2 := Lib.hid hfc
  clear hb hfc
  go_wp2_with fail
  obtain ⟨i, hi, ei⟩ := u64_rem wI 11 (by omega)
  obtain ⟨d0, hd0, ed0⟩ := u64_rem dI 9 (by omega)
  rw [show ((11 : Nat) : Int) = 11 from rfl] at ei
  rw [show ((9 : Nat) : Int) = 9 from rfl] at ed0
  have ei2 : wrap64 ((IntKind.u64.wrap wI).tmod 11) = (i : Int) := by rw [ei]; exact wrap64_small (by omega) (by omega)
  have ed2 : wrap64 (wrap64 ((IntKind.u64.wrap dI).tmod 9) + 1) = ((d0 + 1 : Nat) : Int) := by
    rw [ed0, wrap64_small (x := (d0 : Int)) (by omega) (by omega), wrap64_small (by omega) (by omega)]; omega
  obtain ⟨d, hdd⟩ : ∃ d, d = d0 + 1 := ⟨_, rfl⟩
  rw [← hdd] at ed2
  have d1 : 1 ≤ d ∧ d ≤ 9 := by omega
  rw [ei2, ed2]
  clear ei ed0 ei2 ed2 hdd hd0
  obtain ⟨d2, d3⟩ := d1
  go_loopg [13, 14] d (fun g st si wr => ∃ (j : Nat), j ≤ d ∧ g = d - j ∧ st = .int .u64 ((10 ^ j : Nat) : Int) ∧ si = .int .i64 j ∧ w2 = wr)
  case atStart => exact ⟨0, by omega, rfl, rfl, rfl, rfl⟩
  case round =>
    obtain ⟨j, hj, hgj, rfl, rfl, rfl⟩ := hrel
    have RJ : Aside (gk = d - j ∧ j ≤ d) := ⟨hgj, hj⟩
    clear hgj hj
    by_cases hltj : j < d
    · have hltj' : (j : Int) < (d : Int) := by omega
      have X2 : (10 : Nat) ^ j ≤ 10 ^ 9 := Nat.pow_le_pow_right (by omega) (by omega)
      have X3 : (10 : Nat) ^ 9 = 1000000000 := by decide
      have X4 : (10 : Nat) ^ (j + 1) = 10 ^ j * 10 := Nat.pow_succ _ _
      obtain ⟨x, hx⟩ : ∃ x, x = (10 : Nat) ^ j := ⟨_, rfl⟩
      obtain ⟨y, hy⟩ : ∃ y, y = (10 : Nat) ^ (j + 1) := ⟨_, rfl⟩
      rw [← hx] at X2 X4 ⊢
      rw [← hy] at X4
      have Y : Aside (y = 10 ^ (j + 1) ∧ y = x * 10) := ⟨hy, X4⟩
      have x1 : (x : Int) ≤ 1000000000 := by omega
      clear X2 X3 X4 hx hy
      go_wp2_with fail
      go_roundg (d - (j + 1))
      case measure => have := RJ.out.1; omega
      case rel => exact ⟨j + 1, by omega, rfl, by rw [← Y.out.1]; have := Y.out.2; congr 1; omega, by go_num, rfl⟩
    · obtain rfl : j = d := by have := RJ.out.2; omega
      have X2 : (10 : Nat) ^ j ≤ 10 ^ 9 := Nat.pow_le_pow_right (by omega) d3
      have X3 : (10 : Nat) ^ 9 = 1000000000 := by decide
      have X5 : 0 < (10 : Nat) ^ j := Nat.pow_pos (by omega)
      obtain ⟨ten, hten⟩ : ∃ x, x = (10 : Nat) ^ j := ⟨_, rfl⟩
      rw [← hten] at X2 X5 ⊢
      have HT := Lib.hid hten
      obtain ⟨part, hpart⟩ : ∃ p, p = fr % ten := ⟨_, rfl⟩
      have PL : Hid (part = fr % ten ∧ part < ten) := Lib.hid ⟨hpart, by rw [hpart]; exact Nat.mod_lt _ X5⟩
      have em : ((fr : Int)).tmod (ten : Int) = (part : Int) := by
        rw [Int.tmod_eq_emod_of_nonneg (by omega), hpart]; omega
      have t0 : ((ten : Int) == 0) = false := by rw [beq_eq_false_iff_ne]; omega
      have t1 : (ten : Int) ≤ 1000000000 := by omega
      have p1 : (part : Int) < (ten : Int) := by have := PL.out.2; omega
      clear hten hpart X2 X3
      obtain ⟨tl, etl, ltl, ntl, dtl⟩ := dec_pad j part (by rw [← HT.out]; exact PL.out.2)
      rw [← HT.out] at etl
      have TL : Hid (decDigits (ten + part) = 49 :: tl ∧ tl.length = j ∧ numOf tl = part ∧ ∀ c ∈ tl, 48 ≤ c.toNat ∧ c.toNat ≤ 57) := Lib.hid ⟨etl, ltl, ntl, dtl⟩
      obtain ⟨s, hs⟩ : ∃ s, s = dig (ten + part) := ⟨_, rfl⟩
      have SS : Hid (s = dig (ten + part) ∧ s.size = j + 1) := Lib.hid ⟨hs, by rw [hs, dig_size, etl, List.length_cons, ltl]⟩
      have FU : Hid (Calls Tryd.prog 13 #[.int .u64 ((ten : Int) + (part : Int)), .int .i64 10] w2 fun e w' => e = .returned (.string s) ∧ Below w2.heap.size w2 w') := Lib.hid (by rw [hs]; exact formatUint_eq (by omega) (by have := PL.out.2; omega) w2 (GG.out.below B2.out).2)
      have s1 : (1 : Int) ≤ (s.size : Int) := by rw [SS.out.2]; omega
      have s2 : 1 ≤ s.size := by rw [SS.out.2]; omega
      clear etl ltl ntl dtl hs
      go_wp2_with fail
      refine FU.out.mono ?_
      rintro e w3 ⟨rfl, hb3⟩
      have B3 : Hid (Below w.heap.size w w3 ∧ Facs w3 b c) := Lib.hid ⟨B2.out.trans (hb3.mono B2.out.size), F2.out.below hb3⟩
      clear hb3 FU
      go_wp2_with fail
      obtain ⟨tb, htb⟩ : ∃ tb, tb = s.extract 1 s.size := ⟨_, rfl⟩
      rw [← htb]
      have TB : Hid (tb.data.toList = tl ∧ tb.size = j) := Lib.hid (by
        have e : tb.data.toList = tl := by
          have e1 : s.data.toList = 49 :: tl := by rw [SS.out.1]; show (decDigits (ten + part)).toArray.toList = _; rw [List.toList_toArray, TL.out.1]
          rw [htb, ByteArray.data_extract, Array.toList_extract, e1]
          have e2 : s.size = tl.length + 1 := by rw [SS.out.2, TL.out.2.1]
          rw [e2]
          simp [List.extract]
        exact ⟨e, by have e3 : tb.data.toList.length = tb.size := by simp
                     rw [← e3, e, TL.out.2.1]⟩)
      obtain ⟨A, hA⟩ : ∃ A, A = dig n := ⟨_, rfl⟩
      obtain ⟨sf, hsf⟩ : ∃ x, x = sufT (i + 1) := ⟨_, rfl⟩
      obtain ⟨f, hff⟩ : ∃ x, x = facN i := ⟨_, rfl⟩
      have FC : Hid (∀ W, Below w3.heap.size w3 W → W.cell? ⟨b, i, none⟩ = some (.string sf) ∧ W.cell? ⟨c, i, none⟩ = some (.int .i64 (f : Int))) := Lib.hid fun W hb => by rw [hsf, hff]; exact fac_cell (B3.out.2.below hb) i hi
      have ZS : Hid (A.size ≤ 10 ∧ sf.size ≤ 2) := Lib.hid ⟨by rw [hA, dig_size]; exact dec_le 9 n (Nat.lt_trans hn (by decide)), by rw [hsf]; exact sufT_len (i + 1) (by omega)⟩
      have FF : Hid (f ≤ 1125899906842624 ∧ sufN (i + 1) = f * 1000) := Lib.hid (by rw [hff]; exact facN_le i hi)
      obtain ⟨V, hV⟩ : ∃ V, V = parseR (((A ++ ⟨#[46]⟩) ++ tb) ++ sf) := ⟨_, rfl⟩
      have VT : Hid (V = timesT ((n * ten + part) * (f * 1000)) ten) := Lib.hid (by
        rw [hV, ← FF.out.2]
        have q := mean_parse (((A ++ ⟨#[46]⟩) ++ tb) ++ sf) n j part (i + 1) tl (by omega) hn ⟨d2, d3⟩ TL.out.2.1 TL.out.2.2.1 TL.out.2.2.2 (by
          rw [ByteArray.data_append, Array.toList_append, ByteArray.data_append, Array.toList_append, ByteArray.data_append, Array.toList_append, TB.out.1, hA, hsf]
          show (decDigits n).toArray.toList ++ [46] ++ tl ++ _ = _
          simp)
        rw [← HT.out] at q
        exact q)
      have FN : Hid (∀ dq os, Calls Tryd.prog 13 #[.int .u64 (n : Int), .int .i64 10] (Go.Sort.grow (redrawn w3 dq) os) fun e w'' => e = .returned (.string A) ∧ ∃ p : Regrown, w'' = Go.Sort.grow (redrawn w3 p.d) p.os) := Lib.hid fun dq os => by
        rw [hA]
        exact Calls.regrown_of (formatUint_eq rfl (by omega) _ ((GG.out.below B3.out.1).below (below_regrown w3 dq os)).2)
      have PA : Hid (∀ dq os, Calls Tryd.prog 10 #[.string (((A ++ ⟨#[46]⟩) ++ tb) ++ sf)] (Go.Sort.grow (redrawn w3 dq) os) fun e w'' => e = .returned (.tuple #[.int .i64 V.1, .int .i64 V.2]) ∧ ∃ p : Regrown, w'' = Go.Sort.grow (redrawn w3 p.d) p.os) := Lib.hid fun dq os => by
        rw [hV]
        exact Calls.regrown_of (parse_any _ (by
          have h1 := ZS.out
          have h2 := TB.out.2
          rw [ByteArray.size_append, ByteArray.size_append, ByteArray.size_append]
          have h3 : (⟨#[46]⟩ : ByteArray).size = 1 := rfl
          omega) _ ((GG.out.below B3.out.1).below (below_regrown w3 dq os)).1)
      have r0 : ∀ (dq : Nat) (os : Array Obj), (Go.Sort.grow (redrawn w3 dq) os).cell? ⟨b, i, none⟩ = some (.string sf) := fun dq os => (FC.out _ (below_regrown w3 dq os)).1
      have i1 : (i : Int) < 11 := by omega
      have a1 : A.size ≤ 10 := ZS.out.1
      have a2 : tb.size ≤ 9 := by rw [TB.out.2]; omega
      have a3 : sf.size ≤ 2 := ZS.out.2
      have z1 : ¬ (9223372036854775807 < A.size + (⟨#[46]⟩ : ByteArray).size) := by have h3 : (⟨#[46]⟩ : ByteArray).size = 1 := rfl; omega
      have z1' : ¬ (9223372036854775807 < A.size + 1) := by omega
      have z2 : ¬ (9223372036854775807 < (A ++ ⟨#[46]⟩).size + tb.size) := by rw [ByteArray.size_append]; have h3 : (⟨#[46]⟩ : ByteArray).size = 1 := rfl; omega
      have z2' : ¬ (9223372036854775807 < A.size + 1 + tb.size) := by omega
      have z3 : ¬ (9223372036854775807 < (A ++ ⟨#[46]⟩ ++ tb).size + sf.size) := by rw [ByteArray.size_append, ByteArray.size_append]; have h3 : (⟨#[46]⟩ : ByteArray).size = 1 := rfl; omega
      have z3' : ¬ (9223372036854775807 < A.size + 1 + tb.size + sf.size) := by omega
      have MN : Hid (Mn n ten part f) := Lib.hid ⟨by
          have h1 : n * ten ≤ 4294967295 * 1000000000 := Nat.mul_le_mul (by omega) (by omega)
          have := PL.out.2
          omega, FF.out.1, ⟨X5, by omega⟩⟩
      clear htb hA hsf hff hV a1 a2 a3
      obtain ⟨v, er⟩ := V
      refine wp_region_quiet_below (by kernel_rfl) (by kernel_rfl) ?_
      repeat (go_big_quiet_step (first | with_reducible exact FN.out _ _ | with_reducible exact PA.out _ _))
      refine wpQuiet_nil ?_
      rintro _ ⟨⟨dq, osq⟩, hw''⟩
      subst hw''
      have c1 : (Go.Sort.grow (redrawn w3 dq) osq).cell? ⟨c, i, none⟩ = some (.int .i64 (f : Int)) := (FC.out _ (below_regrown w3 dq osq)).2
      have B4 : Hid (Below w.heap.size w (Go.Sort.grow (redrawn w3 dq) osq)) := Lib.hid (B3.out.1.trans ((below_regrown w3 dq osq).mono B3.out.1.size))
      obtain ⟨W4, hW4⟩ : ∃ W, W = Go.Sort.grow (redrawn w3 dq) osq := ⟨_, rfl⟩
      rw [← hW4] at c1 B4 ⊢
      clear hW4 r0 FN PA z1 z1' z2 z2' z3 z3'
      obtain ⟨P, hP⟩ : ∃ P, P = n * ten := ⟨_, rfl⟩
      have hP2 : (n : Int) * (ten : Int) = (P : Int) := by rw [hP]; omega
      have HP := Lib.hid hP
      have p2 : P + part < 4611686018427387904 := by rw [hP]; exact MN.out.a
      have f2 : (f : Int) ≤ 1125899906842624 := by have := MN.out.f; omega
      have M1 : Hid (∀ W, Calls Tryd.prog 14 #[.int .u64 ((P : Int) + (part : Int)), .int .u64 (f : Int)] W fun e w' => e = .returned (.tuple #[.int .u64 ((mA n ten part f / 18446744073709551616 : Nat) : Int), .int .u64 ((mA n ten part f % 18446744073709551616 : Nat) : Int)]) ∧ w' = W) := Lib.hid fun W => by
        have q := Tryd.bits_Mul64 (P + part) f (by omega) (by have := MN.out.f; omega) W
        have e : (P + part) * f = mA n ten part f := by rw [hP]; rfl
        rw [e] at q
        have e2 : ((P + part : Nat) : Int) = (P : Int) + (part : Int) := by omega
        rw [e2] at q
        exact q
      have wl := MN.out.low
      obtain ⟨wh, hwh⟩ : ∃ x, x = mA n ten part f / 18446744073709551616 := ⟨_, rfl⟩
      obtain ⟨lo, hlo⟩ : ∃ x, x = mA n ten part f % 18446744073709551616 := ⟨_, rfl⟩
      rw [← hwh, ← hlo] at M1
      rw [← hwh] at wl
      have l1 : lo < 18446744073709551616 := by rw [hlo]; exact Nat.mod_lt _ (by decide)
      have gw : decide ((wh : Int) ≥ 9007199254740992) = false := decide_eq_false (by omega)
      have gw2 : (wh : Int) < 9007199254740992 := by omega
      obtain ⟨h1, hh1⟩ : ∃ x, x = lo * 1000 / 18446744073709551616 := ⟨_, rfl⟩
      obtain ⟨re, hre⟩ : ∃ x, x = lo * 1000 % 18446744073709551616 := ⟨_, rfl⟩
      have M2 : Hid (∀ W, Calls Tryd.prog 14 #[.int .u64 (lo : Int), .int .u64 1000] W fun e w' => e = .returned (.tuple #[.int .u64 (h1 : Int), .int .u64 (re : Int)]) ∧ w' = W) := Lib.hid fun W => by
        have q := Tryd.bits_Mul64 lo 1000 l1 (by decide) W
        rw [hh1, hre]; exact q
      have h1b : h1 < 1000 := by omega
      obtain ⟨H, hH⟩ : ∃ x, x = h1 + wh * 1000 := ⟨_, rfl⟩
      have HH2 : (h1 : Int) + (wh : Int) * 1000 = (H : Int) := by omega
      have EH : Hid (H = mH n ten part f ∧ re = mL n ten part f ∧ re < 18446744073709551616) := Lib.hid ⟨by rw [hH, hh1, hlo, hwh]; rfl, by rw [hre, hlo]; rfl, by rw [hre]; exact Nat.mod_lt _ (by decide)⟩
      have p3 : (P : Int) + (part : Int) < 4611686018427387904 := by omega
      have p4 : (0 : Int) ≤ (P : Int) := by omega
      have WRP : Hid (IntKind.u64.wrap (IntKind.u64.wrap (IntKind.u64.wrap (n : Int) * (ten : Int)) + (part : Int)) = (P : Int) + (part : Int)) := Lib.hid (by
        rw [wrap_u (x := (n : Int)) (by omega) (by omega), hP2, wrap_u (x := (P : Int)) (by omega) (by omega), wrap_u (by omega) (by omega)])
      have HN := Lib.hid hn
      have HF := Lib.hid hf
      clear hwh hlo hh1 hre hH hP l1 wl p2 hn hf
      clear hP2
      have B5 := B4
      go_wp2_with fail
      rw [WRP.out]
      refine (M1.out _).mono ?_
      rintro e w5 ⟨rfl, rfl⟩
      clear p3 p4
      go_wp2_with fail
      refine (M2.out _).mono ?_
      rintro e w6 ⟨rfl, rfl⟩
      by_cases ho : ten ≤ H
      · have go : decide ((H : Int) ≥ (ten : Int)) = true := decide_eq_true (by omega)
        have q := mn_over MN.out (by rw [← EH.out.1]; exact ho)
        rw [← VT.out] at q
        simp only [Prod.mk.injEq] at q
        obtain ⟨rfl, rfl⟩ := q
        go_wp2_with fail
        go_ret
        exact ⟨rfl, B5.out⟩
      · have go : decide ((H : Int) ≥ (ten : Int)) = false := decide_eq_false (by omega)
        obtain ⟨q, hq⟩ : ∃ q, q = (H * 18446744073709551616 + re) / ten := ⟨_, rfl⟩
        obtain ⟨r, hr⟩ : ∃ r, r = (H * 18446744073709551616 + re) % ten := ⟨_, rfl⟩
        have DV := Lib.hid (div_any H re ten q r (by omega) (by omega) EH.out.2.2 hq hr w6)
        have QL : Hid (q < 18446744073709551616) := Lib.hid (by
          have t := mn_in MN.out (by rw [← EH.out.1]; omega)
          rw [← EH.out.1, ← EH.out.2.1, ← hq] at t
          exact t)
        have CV : Hid (((v, er) : Int × Int) = if r = 0 then (if q ≤ 9223372036854775807 then ((q : Int), 0) else (0, 7)) else (if q + 1 ≤ 9223372036854775807 then (((q + 1 : Nat) : Int), 0) else (0, 7))) := Lib.hid (by
          rw [VT.out, ← Mn.sum, ← EH.out.1, ← EH.out.2.1]
          exact mn_val hq hr)
        clear hq hr M1 M2 VT MN
        go_wp2_with fail
        refine DV.out.mono ?_
        rintro e w7 ⟨rfl, hb7⟩
        have B6 : Hid (Below w.heap.size w w7) := Lib.hid (B5.out.trans (hb7.mono B5.out.size))
        clear hb7 DV go ho HH2 gw gw2 h1b
        by_cases hr0 : r = 0
        · subst hr0
          have er0 : ((0 : Nat) : Int) = 0 := rfl
          rw [er0]
          clear er0
          by_cases hm : q ≤ 9223372036854775807
          · have e1 : ((v, er) : Int × Int) = ((q : Int), 0) := by rw [CV.out, if_pos rfl, if_pos hm]
            simp only [Prod.mk.injEq] at e1
            obtain ⟨rfl, rfl⟩ := e1
            have g1 : decide ((q : Int) > 9223372036854775807) = false := decide_eq_false (by omega)
            have g2 : (q : Int) ≤ 9223372036854775807 := by omega
            have g3 : ((q : Int) == (q : Int)) = true := by simp
            have W1 : Hid (IntKind.i64.wrap (q : Int) = (q : Int)) := Lib.hid (by unfold IntKind.wrap; simp [IntKind.bits, IntKind.signed]; omega)
            clear hm QL CV
            by_cases hq0 : q = 0
            · subst hq0
              go_wp2_with fail
              go_ret
              exact ⟨rfl, B6.out⟩
            · have g0 : ((q : Int) == 0) = false := by rw [beq_eq_false_iff_ne]; omega
              clear hq0
              go_wp2_with fail
              go_ret
              exact ⟨rfl, B6.out⟩
          · have e1 : ((v, er) : Int × Int) = (0, 7) := by rw [CV.out, if_pos rfl, if_neg hm]
            simp only [Prod.mk.injEq] at e1
            obtain ⟨rfl, rfl⟩ := e1
            have g1 : decide ((q : Int) > 9223372036854775807) = true := decide_eq_true (by omega)
            clear QL CV
            go_wp2_with fail
            go_ret
            exact ⟨rfl, B6.out⟩
        · have gr : decide ((r : Int) > 0) = true := decide_eq_true (by omega)
          by_cases hz : q + 1 = 18446744073709551616
          · have e1 : ((v, er) : Int × Int) = (0, 7) := by rw [CV.out, if_neg hr0, if_neg (by omega)]
            simp only [Prod.mk.injEq] at e1
            obtain ⟨rfl, rfl⟩ := e1
            obtain rfl : q = 18446744073709551615 := by omega
            clear QL CV hz
            go_wp2_with fail
            go_ret
            exact ⟨rfl, B6.out⟩
          · obtain ⟨u, hu⟩ : ∃ u, u = q + 1 := ⟨_, rfl⟩
            have WU : Hid (IntKind.u64.wrap ((q : Int) + 1) = (u : Int)) := Lib.hid (by rw [wrap_u (by omega) (by have := QL.out; omega)]; omega)
            have u0 : ((u : Int) == 0) = false := by rw [beq_eq_false_iff_ne]; omega
            by_cases hm : u ≤ 9223372036854775807
            · have e1 : ((v, er) : Int × Int) = ((u : Int), 0) := by rw [CV.out, if_neg hr0, if_pos (by omega), hu]
              simp only [Prod.mk.injEq] at e1
              obtain ⟨rfl, rfl⟩ := e1
              have g1 : decide ((u : Int) > 9223372036854775807) = false := decide_eq_false (by omega)
              have g2 : (u : Int) ≤ 9223372036854775807 := by omega
              have g3 : ((u : Int) == (u : Int)) = true := by simp
              have q2 : (q : Int) + 1 = (u : Int) := by omega
              clear QL CV hz hm hu
              go_wp2_with fail
              go_ret
              exact ⟨rfl, B6.out⟩
            · have e1 : ((v, er) : Int × Int) = (0, 7) := by rw [CV.out, if_neg hr0, if_neg (by omega)]
              simp only [Prod.mk.injEq] at e1
              obtain ⟨rfl, rfl⟩ := e1
              have g1 : decide ((u : Int) > 9223372036854775807) = true := decide_eq_true (by omega)
              have q2 : (q : Int) + 1 = (u : Int) := by omega
              have WU1 := WU.out
              rw [q2] at WU1
              clear QL CV hz hm hu
              go_wp2_with fail
              go_ret
              exact ⟨rfl, B6.out⟩
theorem quantMeans_walk (x y : Int) (dI wI : Int) (w : World) (G : Glob w) (hx : 0 ≤ x ∧ x < 4294967296) (hy : 0 ≤ y ∧ y < 4294967296) (_hd : -9223372036854775808 ≤ dI ∧ dI ≤ 9223372036854775807) (_hw : -9223372036854775808 ≤ wI ∧ wI ≤ 9223372036854775807) :
    Calls Tryd.prog 4 #[.int .u32 x, .int .u32 y, .int .i64 dI, .int .i64 wI] w fun e w' => e = .returned (.bool true) ∧ Below w.heap.size w w' := by
  obtain ⟨n, rfl⟩ : ∃ n : Nat, x = n := ⟨x.toNat, by omega⟩
  obtain ⟨m, rfl⟩ : ∃ m : Nat, y = m := ⟨y.toNat, by omega⟩
  exact quantMeans_nat n m dI wI w G (by omega) (by omega)
end Go.Proofs.YtiacbppgofdkmaaDoor
