/-
  THE WALK of QuantBack.
-/
import Derived.Test.YtogicfipdeaffaaDoorPrintN
import Derived.Test.YtogicfipdeaffaaDoorKnownK
import Derived.RegionTactic
import Derived.BigQuiet
import Derived.Deep.QuietTactic
import Derived.Lib.QuietBelow
namespace Go.Proofs.YtogicfipdeaffaaDoor
open Go.RowKit Go.Shelf Go.Sort Go.Lib
set_option maxHeartbeats 8000000 in
set_option maxRecDepth 100000 in
theorem quantBack_neg (hk : KnownOk) (v : Int) (w : World) (G : Glob w) (hv : v < 0) :
    Calls Tryd.prog 4 #[.int .i64 v] w fun e w' => e = .returned (.bool true) ∧ Below w.heap.size w w' := by
  have K := Lib.hid (hk w G)
  clear hk G
  go_enter Tryd.func4, Tryd.ntmps4
  go_wp2_with fail
  refine K.out.mono ?_
  rintro e w1 ⟨rfl, hb⟩
  have B := Lib.hid hb
  clear hb K
  go_wp2_with fail
  refine (print_neg v hv w1).mono ?_
  rintro e w2 ⟨rfl, hb⟩
  have B2 := Lib.hid (B.out.trans (hb.mono B.out.size))
  clear hb
  go_wp2_with fail
  go_ret
  exact ⟨rfl, B2.out⟩
set_option maxHeartbeats 8000000 in
set_option maxRecDepth 100000 in
theorem quantBack_pos (hk : KnownOk) (v : Nat) (w : World) (G : Glob w) (hv : v < 9223372036854775808) :
    Calls Tryd.prog 4 #[.int .i64 v] w fun e w' => e = .returned (.bool true) ∧ Below w.heap.size w w' := by
  have K := Lib.hid (hk w G)
  have GG := Lib.hid G
  clear hk G
  obtain ⟨⟨i, hi, hm, he⟩, hmin⟩ := best_spec v 12 (by omega) (by omega)
  have h0 := hmin 0 (by omega) (Nat.mod_one v)
  have hp := (sufN_pos i hi).1
  have M : Aside ((v / sufN i) * sufN i = v) := Nat.div_mul_cancel (Nat.dvd_of_mod_eq_zero hm)
  have DL : Aside ((decDigits (v / sufN i)).length ≤ 19) := dec_le 18 _ (Nat.lt_of_le_of_lt (Nat.div_le_self v _) (Nat.lt_of_lt_of_le hv (by decide)))
  have sp : 0 < (best v 12).size := by
    rw [he, text_size]
    have := List.length_pos_iff.2 (dec_ne (v / sufN i))
    omega
  have s0 : (best v 12).size ≤ (dig v).size + 1 := by
    rw [text_size] at h0
    rw [dig_size]
    have e : v / sufN 0 = v := Nat.div_one v
    rw [e] at h0
    exact h0
  have d20 : (dig v).size ≤ 20 := by rw [dig_size]; exact dig_le v (by omega)
  obtain ⟨s, hs⟩ : ∃ s, s = best v 12 := ⟨_, rfl⟩
  rw [← hs] at he hmin sp s0
  have S : Aside (best v 12 = s ∧ i < 12 ∧ s = dig (v / sufN i) ++ sufT i) := ⟨hs.symm, hi, he⟩
  have MN : Aside (∀ j, j < 12 → v % sufN j = 0 → s.size ≤ (dig (v / sufN j) ++ sufT j).size) := hmin
  clear hs he hmin h0 hm hi hp
  have v0 : decide ((v : Int) < 0) = false := by rw [decide_eq_false_iff_not]; omega
  have em : s.toList.isEmpty = false := by
    rw [ByteArray.toList_eq]
    cases hl : s.data.toList with
    | nil =>
      have h2 := congrArg List.length hl
      have h5 : s.data.toList.length = s.size := by simp
      rw [h2] at h5
      simp at h5
      omega
    | cons _ _ => rfl
  go_enter Tryd.func4, Tryd.ntmps4
  go_wp2_with fail
  refine K.out.mono ?_
  rintro e w1 ⟨rfl, hb⟩
  have B1 := Lib.hid hb
  clear hb K
  go_wp2_with fail
  refine (print_any v hv w1 (GG.out.below B1.out).1 (GG.out.below B1.out).2).mono ?_
  rintro e w2 ⟨rfl, hb⟩
  have B2 := Lib.hid (B1.out.trans (hb.mono B1.out.size))
  clear hb
  rw [S.out.1]
  go_wp2_with fail
  rw [S.out.2.2]
  refine (parse_dig (v / sufN i) i v S.out.2.1 M.out hv DL.out w2 (GG.out.below B2.out).1).mono ?_
  rintro e w3 ⟨rfl, hb⟩
  have B3 := Lib.hid (B2.out.trans (hb.mono B2.out.size))
  clear hb
  rw [← S.out.2.2]
  have ll : decide ((s.size : Int) > ((dig v).size : Int) + 1) = false := by rw [decide_eq_false_iff_not]; omega
  have ll2 : decide (((dig v).size : Int) + 1 < (s.size : Int)) = false := by rw [decide_eq_false_iff_not]; omega
  have TB := Lib.hid (GG.out.below B3.out).2
  go_wp2_with fail
  refine (formatInt_any v v rfl hv w3 TB.out).mono ?_
  rintro e w4 ⟨rfl, hb⟩
  have B4 := Lib.hid (B3.out.trans (hb.mono B3.out.size))
  clear hb TB
  go_wp2_with fail
  refine (factors_ok w4).mono ?_
  rintro e w5 ⟨b, c, rfl, hb, hf⟩
  have B5 := Lib.hid (B4.out.trans (hb.mono B4.out.size))
  have F5 := Lib.hid hf
  clear hb hf
  go_wp2_with fail
  have G5 := Lib.hid (GG.out.below B5.out)
  clear B1 B2 B3 B4 ll ll2 em GG M DL s0 d20
  go_loopg [8] 11 (fun g si wr => ∃ (k : Nat), k ≤ 11 ∧ g = 11 - k ∧ si = .int .i64 k ∧ Below w.heap.size w wr ∧ Facs wr b c ∧ Glob wr)
  case atStart => exact ⟨0, by omega, rfl, rfl, B5.out, F5.out, G5.out⟩
  case round =>
    obtain ⟨k, hk, hg, rfl, hb, hf, hgl⟩ := hrel
    have R : Aside (gk = 11 - k ∧ k ≤ 11 ∧ Below w.heap.size w wr ∧ Facs wr b c ∧ Glob wr) := ⟨hg, hk, hb, hf, hgl⟩
    clear hg hk hb hf hgl
    by_cases hlt : k < 11
    · have hlt' : (k : Int) < 11 := by omega
      by_cases hd : v % 1000 = 0
      · have hd' : (v : Int) % 1000 = 0 := by omega
        have hd2 : (v : Int).tmod 1000 = 0 := by rw [Int.tmod_eq_emod_of_nonneg (by omega)]; exact hd'
        obtain ⟨hc0, hc1⟩ := R.out.2.2.2.1 k hlt
        obtain ⟨np, nl, nm⟩ := facN_pos k hlt
        obtain ⟨t, ht⟩ : ∃ t, t = sufT (k + 1) := ⟨_, rfl⟩
        obtain ⟨n, hn⟩ : ∃ n, n = facN k := ⟨_, rfl⟩
        rw [← ht] at hc0
        rw [← hn] at hc1 np nl nm
        have NT : Aside (t = sufT (k + 1) ∧ n * 1000 = sufN (k + 1)) := ⟨ht, nm⟩
        clear ht hn nm
        have n0 : ¬ (n : Int) = 0 := by omega
        have n1 : (0 : Int) < (n : Int) := by omega
        obtain ⟨q, hq⟩ : ∃ q, q = v / 1000 := ⟨_, rfl⟩
        have hq' : (v : Int) / 1000 = (q : Int) := by omega
        have hq2 : (v : Int).tdiv 1000 = (q : Int) := by rw [Int.tdiv_eq_ediv_of_nonneg (by omega)]; exact hq'
        have x0 : ∀ (dq : Nat) (os : Array Obj), (grow (redrawn wr dq) os).cell? ⟨b, k, none⟩ = some (.string t) := fun dq os => cell_regrown hc0 dq os
        have x1 : ∀ (dq : Nat) (os : Array Obj), (grow (redrawn wr dq) os).cell? ⟨c, k, none⟩ = some (.int .i64 n) := fun dq os => cell_regrown hc1 dq os
        have xB : Hid (∀ (dq : Nat) (os : Array Obj), RowKit.Below w.heap.size w (grow (redrawn wr dq) os) ∧ Facs (grow (redrawn wr dq) os) b c ∧ Glob (grow (redrawn wr dq) os)) := fun dq os =>
          ⟨R.out.2.2.1.trans ((below_regrown wr dq os).mono R.out.2.2.1.size), R.out.2.2.2.1.below (below_regrown wr dq os), R.out.2.2.2.2.below (below_regrown wr dq os)⟩
        clear hc0 hc1
        by_cases hr : q % n = 0
        · have hr' : (q : Int) % (n : Int) = 0 := by omega
          have hr2 : (q : Int).tmod (n : Int) = 0 := by rw [Int.tmod_eq_emod_of_nonneg (by omega)]; exact hr'
          obtain ⟨r, hrr⟩ : ∃ r, r = q / n := ⟨_, rfl⟩
          have z1 : (q : Int) / (n : Int) = (r : Int) := by rw [hrr]; simp
          have z2 : (q : Int).tdiv (n : Int) = (r : Int) := by rw [Int.tdiv_eq_ediv_of_nonneg (by omega)]; exact z1
          have rl : r < 9223372036854775808 := by rw [hrr, hq]; exact Nat.lt_of_le_of_lt (Nat.le_trans (Nat.div_le_self _ _) (Nat.div_le_self _ _)) hv
          have xQ : Hid (∀ (dq : Nat) (os : Array Obj), Calls Tryd.prog 12 #[.int .i64 r, .int .i64 10] (grow (redrawn wr dq) os) fun e w'' => e = .returned (.string (dig r)) ∧ ∃ p : Regrown, w'' = grow (redrawn wr p.d) p.os) := fun dq os =>
            Calls.regrown_of (formatInt_any r r rfl rl _ (xB.out dq os).2.2.2)
          have RD : Aside (v / sufN (k + 1) = r ∧ v % sufN (k + 1) = 0) := by
            rw [← NT.out.2, Nat.mul_comm n 1000, hrr, hq]
            exact ⟨(Nat.div_div_eq_div_mul v 1000 n).symm, by rw [Nat.mod_mul, hd, ← hq, hr]⟩
          have mn := MN.out (k + 1) (by omega) RD.out.2
          rw [RD.out.1, ← NT.out.1, ByteArray.size_append] at mn
          have r20 : (dig r).size ≤ 20 := by rw [dig_size]; exact dig_le r (by omega)
          have t2 : t.size ≤ 2 := by rw [NT.out.1]; exact sufT_len (k + 1) (by omega)
          have g1 : decide (((dig r).size : Int) + (t.size : Int) < (s.size : Int)) = false := by rw [decide_eq_false_iff_not]; omega
          have g2 : decide ((dig r).size + t.size < s.size) = false := by rw [decide_eq_false_iff_not]; omega
          have rl' : (r : Int) < 9223372036854775808 := by omega
          have rl2 : (r : Int) ≤ 9223372036854775807 := by omega
          clear hrr rl hr hq mn
          go_wp2_with fail
          refine wp_region_quiet_below (by kernel_rfl) (by kernel_rfl) ?_
          repeat (go_big_quiet_step (exact xQ.out _ _))
          refine wpQuiet_nil ?_
          intro _ hw'
          obtain ⟨⟨dq, osq⟩, hw''⟩ := hw'
          subst hw''
          have xx := Lib.hid (xB.out dq osq)
          clear x0 x1 xB xQ
          obtain ⟨W, hW⟩ : ∃ W, W = grow (redrawn wr dq) osq := ⟨_, rfl⟩
          rw [← hW] at xx ⊢
          clear hW
          go_wp2_with fail
          go_roundg (11 - (k + 1))
          case measure => have := R.out.1; omega
          case rel => exact ⟨k + 1, by omega, rfl, by go_num, xx.out⟩
        · have hr' : ¬ (q : Int) % (n : Int) = 0 := by omega
          have hr2 : ¬ (q : Int).tmod (n : Int) = 0 := by rw [Int.tmod_eq_emod_of_nonneg (by omega)]; exact hr'
          have hr3 : ((q : Int) % (n : Int) == 0) = false := by rw [beq_eq_false_iff_ne]; exact hr'
          clear hr hq
          go_wp2_with fail
          refine wp_region_quiet_below (by kernel_rfl) (by kernel_rfl) ?_
          repeat (go_big_quiet_step (fail))
          refine wpQuiet_nil ?_
          intro _ hw'
          obtain ⟨⟨dq, osq⟩, hw''⟩ := hw'
          subst hw''
          have xx := Lib.hid (xB.out dq osq)
          clear x0 x1 xB
          obtain ⟨W, hW⟩ : ∃ W, W = grow (redrawn wr dq) osq := ⟨_, rfl⟩
          rw [← hW] at xx ⊢
          clear hW
          go_wp2_with fail
          go_roundg (11 - (k + 1))
          case measure => have := R.out.1; omega
          case rel => exact ⟨k + 1, by omega, rfl, by go_num, xx.out⟩
      · have hd' : ¬ (v : Int) % 1000 = 0 := by omega
        have hd2 : ¬ (v : Int).tmod 1000 = 0 := by rw [Int.tmod_eq_emod_of_nonneg (by omega)]; exact hd'
        go_wp2_with fail
        go_ret
        exact ⟨rfl, R.out.2.2.1⟩
    · obtain rfl : k = 11 := by have := R.out.2.1; omega
      go_wp2_with fail
      go_ret
      exact ⟨rfl, R.out.2.2.1⟩
theorem quantBack_walk (v : Int) (w : World) (G : Glob w) (hv : -9223372036854775808 ≤ v ∧ v < 9223372036854775808) :
    Calls Tryd.prog 4 #[.int .i64 v] w fun e w' => e = .returned (.bool true) ∧ RowKit.Below w.heap.size w w' := by
  by_cases h : v < 0
  · exact quantBack_neg known_ok v w G h
  · obtain ⟨u, hu⟩ : ∃ u : Nat, v = u := ⟨v.toNat, by omega⟩
    subst hu
    exact quantBack_pos known_ok u w G (by omega)
end Go.Proofs.YtogicfipdeaffaaDoor
