/-
  The document's Print, Valid, holds, Match.
-/
import Derived.Test.YthbbdhhkamccbaaDoorRefT3
namespace Go.Proofs.YthbbdhhkamccbaaDoor
open Go.RowKit Go.Sort
def sofar3 (xs : List Trm) (j : Nat) : ByteArray := bys (jn 44 ((xs.take j).map fun x => wr3 (t3 x)))
theorem sofar3_first (xs : List Trm) (h : 0 < xs.length) (x : Trm) (ex : xs.getD 0 ⟨⟨#[]⟩, 0, .slice none 0 0, []⟩ = x) : sofar3 xs 1 = sofar3 xs 0 ++ bys (wr3 (t3 x)) := by
  rw [app_bys, data_bys]
  unfold sofar3
  rw [show (1 : Nat) = 0 + 1 from rfl, take_one xs 0 _ h, ex]
  rfl
theorem sofar3_next (xs : List Trm) (j : Nat) (h0 : 0 < j) (h : j < xs.length) (x : Trm) (ex : xs.getD j ⟨⟨#[]⟩, 0, .slice none 0 0, []⟩ = x) : sofar3 xs (j + 1) = sofar3 xs j ++ ⟨#[44]⟩ ++ bys (wr3 (t3 x)) := by
  rw [app_bys, app_bys, data_bys]
  unfold sofar3
  rw [data_bys, data_bys, take_one xs j _ h, ex, List.map_append, List.map_singleton, jn_snoc 44 _ _ (by
    intro e
    have := congrArg List.length e
    rw [List.length_map, List.length_take] at this
    simp only [List.length_nil] at this
    omega)]
  simp
theorem sofar3_size (xs : List Trm) (j : Nat) (h8 : xs.length ≤ 8) (h : ∀ x ∈ xs, invalidB x = false) : (sofar3 xs j).size ≤ 4000 := by
  unfold sofar3
  rw [bys_size]
  have e : ((xs.take j).map fun x => wr3 (t3 x)) = (wrs (xs.take j)).map (·.data.toList) := by
    unfold wrs
    rw [List.map_map]
    congr 1
  rw [e]
  have := jn_small 44 (wrs (xs.take j)) 400 (by
    intro t ht
    obtain ⟨x, hx, rfl⟩ := List.mem_map.1 ht
    rw [bys_size]
    exact wr3_small (h x (List.mem_of_mem_take hx)))
  have l : (wrs (xs.take j)).length ≤ 8 := by unfold wrs; rw [List.length_map, List.length_take]; omega
  omega
set_option maxHeartbeats 8000000 in
set_option maxRecDepth 100000 in
theorem refPrint_any (v : Value) (xs : List Trm) (w : World) (hv : Trms w v xs) :
    Calls Tryd.prog 23 #[v] w fun e w' => e = .returned (.tuple #[.string (printR xs).1, .int .i64 (printR xs).2]) ∧ Below w.heap.size w w' := by
  have V := Lib.hid hv
  have VT := Lib.hid (refTerms_any v xs w hv)
  obtain ⟨_, a, cap, rfl, hlc, hcm, _, _⟩ := hv
  unfold maxLen at hcm
  cases ht : termsB xs with
  | false =>
    rw [ht] at VT
    have hr : Hid (printR xs = (⟨#[]⟩, 43)) := Lib.hid (by unfold printR; rw [if_neg (by rw [ht]; simp)])
    go_enter Tryd.func23, Tryd.ntmps23
    go_wp2_with fail
    refine VT.out.mono ?_
    rintro e w1 ⟨rfl, hb⟩
    have B1 := Lib.hid hb
    clear hb
    go_wp2_with fail
    go_ret2
    exact ⟨by rw [hr.out]; rfl, B1.out⟩
  | true =>
    rw [ht] at VT
    have h8 : xs.length ≤ 8 := by
      unfold termsB at ht
      simp only [Bool.and_eq_true, decide_eq_true_eq] at ht
      exact ht.1
    have NV : Hid (∀ x ∈ xs, invalidB x = false) := Lib.hid (by
      unfold termsB at ht
      simp only [Bool.and_eq_true, decide_eq_true_eq, Bool.not_eq_true', List.any_eq_false] at ht
      intro x hx
      simpa using ht.2 x hx)
    have SS := Lib.hid fun j => sofar3_size xs j h8 NV.out
    have hr : Hid (printR xs = (sofar3 xs xs.length, 0)) := Lib.hid (by
      unfold printR sofar3 pr3
      rw [if_pos ht, List.take_of_length_le (Nat.le_refl _), List.map_map]
      rfl)
    obtain ⟨n, hn⟩ : ∃ n, n = xs.length := ⟨_, rfl⟩
    rw [← hn] at hlc h8 V VT hr ⊢
    have HN := Lib.hid hn
    clear ht hn
    go_enter Tryd.func23, Tryd.ntmps23
    go_wp2_with fail
    refine VT.out.mono ?_
    rintro e w1 ⟨rfl, hb⟩
    have B1 := Lib.hid hb
    clear hb VT
    go_wp2_with fail
    go_loopg [5, 6] n (fun g ss sj wr => ∃ (j : Nat), j ≤ n ∧ g = n - j ∧ ss = .string (sofar3 xs j) ∧ sj = .int .i64 j ∧ Below w.heap.size w wr)
    case atStart => exact ⟨0, Nat.zero_le _, rfl, rfl, rfl, B1.out⟩
    case round =>
      obtain ⟨j, hj, hg, rfl, rfl, hb⟩ := hrel
      have R : Aside (gk = n - j ∧ Below w.heap.size w wr) := ⟨hg, hb⟩
      clear hg hb
      obtain ⟨s, hs⟩ : ∃ s, s = sofar3 xs j := ⟨_, rfl⟩
      have sz : s.size ≤ 4000 := by rw [hs]; exact SS.out j
      rw [← hs]
      have HS := Lib.hid hs
      clear hs
      by_cases hlt : j < n
      · have hlt' : (j : Int) < (n : Int) := by omega
        obtain ⟨b, off, rfl, x, hx, ex, hat, c0, c1, c2⟩ := trms_at (V.out.below R.out.2) j (by rw [← HN.out]; exact hlt)
        have WX := Lib.hid (refWritten_any x wr hat (NV.out x hx))
        have EX := Lib.hid ex
        obtain ⟨av, cv, ev, _, _⟩ := hat.1.len
        obtain ⟨q, hq⟩ : ∃ q, q = x.ts.length := ⟨_, rfl⟩
        obtain ⟨key, hkey⟩ : ∃ key, key = x.key := ⟨_, rfl⟩
        obtain ⟨how, hhow⟩ : ∃ how, how = x.how := ⟨_, rfl⟩
        obtain ⟨t, ht⟩ : ∃ t, t = bys (wr3 (t3 x)) := ⟨_, rfl⟩
        have tz : t.size ≤ 400 := by rw [ht, bys_size]; exact wr3_small (NV.out x hx)
        unfold Trm.cells at WX
        rw [← hq] at ev
        rw [← ht] at WX
        rw [ev] at c2 WX
        rw [← hkey] at c0 WX
        rw [← hhow] at c1 WX
        have HT := Lib.hid ht
        have s1 : s.size + 1 ≤ 9223372036854775807 := by omega
        have s2 : s.size + t.size ≤ 9223372036854775807 := by omega
        have s3 : (s ++ ⟨#[44]⟩).size + t.size ≤ 9223372036854775807 := by rw [ByteArray.size_append]; show s.size + 1 + t.size ≤ _; omega
        have s4 : s.size + 1 + t.size ≤ 9223372036854775807 := by omega
        clear ex hx hat ev hq hkey hhow ht
        by_cases h0 : j = 0
        · subst h0
          rw [Nat.zero_mul, Nat.add_zero] at c0 c1 c2
          go_wp2_with fail
          refine WX.out.mono ?_
          rintro e w3 ⟨rfl, hb⟩
          have B3 := Lib.hid (R.out.2.trans (hb.mono R.out.2.size))
          clear hb
          go_wp2_with fail
          go_roundg (n - (0 + 1))
          case measure => have := R.out.1; omega
          case rel => exact ⟨1, by omega, rfl, by rw [sofar3_first xs (by rw [← HN.out]; omega) x EX.out, HS.out, HT.out], rfl, B3.out⟩
        · have g0 : decide (0 < j) = true := decide_eq_true (by omega)
          have g1 : decide ((j : Int) > 0) = true := decide_eq_true (by omega)
          have H0 := Lib.hid h0
          go_wp2_with fail
          refine WX.out.mono ?_
          rintro e w3 ⟨rfl, hb⟩
          have B3 := Lib.hid (R.out.2.trans (hb.mono R.out.2.size))
          clear hb
          go_wp2_with fail
          go_roundg (n - (j + 1))
          case measure => have := R.out.1; omega
          case rel => exact ⟨j + 1, by omega, rfl, by rw [sofar3_next xs j (by have := H0.out; omega) (by rw [← HN.out]; exact hlt) x EX.out, HS.out, HT.out], by go_num, B3.out⟩
      · have hge : decide ((j : Int) < (n : Int)) = false := decide_eq_false (by omega)
        have ej : j = n := by omega
        go_wp2_with fail
        go_ret2
        exact ⟨by rw [hr.out, HS.out, ej]; rfl, R.out.2⟩
theorem less_total (x y : List UInt8) (h1 : Op.bytesLess x y = false) (h2 : Op.bytesLess y x = false) : x = y := by
  rw [bytesLess_eq, decide_eq_false_iff_not] at h1 h2
  exact List.le_antisymm (List.not_lt.1 h2) (List.not_lt.1 h1)
theorem less_asymm (x y : List UInt8) (h : Op.bytesLess x y = true) : Op.bytesLess y x = false ∧ (y == x) = false := by
  rw [bytesLess_eq, decide_eq_true_eq] at h
  refine ⟨?_, ?_⟩
  · rw [bytesLess_eq, decide_eq_false_iff_not]
    exact fun h2 => List.lt_irrefl _ (List.lt_trans h h2)
  · rw [beq_eq_false_iff_ne]
    intro e
    rw [e] at h
    exact List.lt_irrefl _ h
set_option maxHeartbeats 16000000 in
set_option maxRecDepth 100000 in
theorem refValid_any (v : Value) (ls : List Lbl) (w : World) (hv : Lbls w v ls) :
    Calls Tryd.prog 25 #[v] w fun e w' => e = .returned (.int .i64 (validE ls)) ∧ Below w.heap.size w w' := by
  have V := Lib.hid hv
  obtain ⟨a, cap, rfl, hlc, hcm⟩ := hv.len
  unfold maxLen at hcm
  obtain ⟨n, hn⟩ : ∃ n, n = ls.length := ⟨_, rfl⟩
  rw [← hn] at hlc V ⊢
  have HN := Lib.hid hn
  clear hv hn
  by_cases h16 : n ≤ 16
  · have g16 : decide ((n : Int) > 16) = false := decide_eq_false (by omega)
    go_enter Tryd.func25, Tryd.ntmps25
    go_wp2_with fail
    clear g16
    go_loopg [3] n (fun g si wr => ∃ (k : Nat), k ≤ n ∧ g = n - k ∧ si = .int .i64 k ∧ (∀ j, j < k → lblB (ls.getD j (⟨#[]⟩, ⟨#[]⟩)) = true ∧ (0 < j → ltS (ls.getD (j - 1) (⟨#[]⟩, ⟨#[]⟩)).1 (ls.getD j (⟨#[]⟩, ⟨#[]⟩)).1 = true)) ∧ Below w.heap.size w wr)
    case atStart => exact ⟨0, Nat.zero_le _, rfl, rfl, fun j hj => absurd hj (Nat.not_lt_zero _), Below.refl _ _⟩
    case round =>
      obtain ⟨k, hk, hg, rfl, hpr, hb⟩ := hrel
      have R : Aside (gk = n - k ∧ (∀ j, j < k → lblB (ls.getD j (⟨#[]⟩, ⟨#[]⟩)) = true ∧ (0 < j → ltS (ls.getD (j - 1) (⟨#[]⟩, ⟨#[]⟩)).1 (ls.getD j (⟨#[]⟩, ⟨#[]⟩)).1 = true)) ∧ Below w.heap.size w wr) := ⟨hg, hpr, hb⟩
      clear hg hpr hb
      by_cases hlt : k < n
      · have hlt' : (k : Int) < (n : Int) := by omega
        obtain ⟨b, off, rfl, c0, c1⟩ := (V.out.below R.out.2.2).at k (by rw [← HN.out]; exact hlt)
        obtain ⟨x, hx⟩ : ∃ x, x = ls.getD k (⟨#[]⟩, ⟨#[]⟩) := ⟨_, rfl⟩
        rw [← hx] at c0 c1
        have XX := Lib.hid hx
        obtain ⟨key, val⟩ := x
        simp only at c0 c1
        have xB : Hid (∀ (dq : Nat) (os : Array Obj), Below wr.heap.size wr (grow (redrawn wr dq) os)) := fun dq os => below_regrown wr dq os
        have r0 : ∀ (dq : Nat) (os : Array Obj), (grow (redrawn wr dq) os).cell? ⟨b, off + k * 2, none⟩ = some (.string key) := fun dq os => cell_regrown c0 dq os
        have r1 : ∀ (dq : Nat) (os : Array Obj), (grow (redrawn wr dq) os).cell? ⟨b, off + k * 2 + 1, none⟩ = some (.string val) := fun dq os => cell_regrown c1 dq os
        obtain ⟨nk, hnk⟩ : ∃ z, z = nameB key := ⟨_, rfl⟩
        obtain ⟨nv, hnv⟩ : ∃ z, z = nameB val := ⟨_, rfl⟩
        have qN : Hid (∀ (t : ByteArray) (dq : Nat) (os : Array Obj), Calls Tryd.prog 34 #[.string t] (grow (redrawn wr dq) os) fun e w'' => e = .returned (.bool (nameB t)) ∧ ∃ p : Regrown, w'' = grow (redrawn wr p.d) p.os) := fun t dq os => by
          refine (refName_any t _).mono ?_
          rintro e w' ⟨rfl, rfl⟩
          exact ⟨rfl, ⟨dq, os⟩, rfl⟩
        have nk' := hnk.symm
        have nv' := hnv.symm
        have KV := Lib.hid (And.intro hnk hnv)
        clear hx hnk hnv
        have BADQ : Hid (lblB (key, val) = false → validE ls = 42) := Lib.hid fun h => by
          unfold validE
          rw [lblsB_no (k := k) (by rw [← HN.out]; exact hlt) (by rw [← XX.out]; exact h), if_neg (by simp)]
        cases nk with
        | false =>
          have hr : Hid (validE ls = 42) := Lib.hid (BADQ.out (by unfold lblB; simp [← KV.out.1]))
          go_wp2_with fail
          refine wp_region_quiet_below (by kernel_rfl) (by kernel_rfl) ?_
          repeat (go_big_quiet_step (exact qN.out _ _ _))
          refine wpQuiet_nil ?_
          intro _ hw'
          obtain ⟨⟨dq, osq⟩, hw''⟩ := hw'
          subst hw''
          go_wp2_with fail
          go_ret
          exact ⟨by rw [hr.out]; rfl, R.out.2.2.trans ((xB.out _ _).mono R.out.2.2.size)⟩
        | true =>
          by_cases h0v : val.data.toList = []
          · have e0 : val.toList.isEmpty = true := by rw [list_of_bytes, h0v]; rfl
            have LB : Hid (lblB (ls.getD k (⟨#[]⟩, ⟨#[]⟩)) = true) := Lib.hid (by
              rw [← XX.out]
              unfold lblB valueB
              have hz : val.size = 0 := by have := congrArg List.length h0v; simpa using this
              simp [← KV.out.1, hz])
            clear h0v
            by_cases h0 : k = 0
            · have gk2 : decide (0 < k) = false := decide_eq_false (by omega)
              have gk : decide ((k : Int) > 0) = false := decide_eq_false (by omega)
              have H0 := Lib.hid h0
              clear h0
              go_wp2_with fail
              refine wp_region_quiet_below (by kernel_rfl) (by kernel_rfl) ?_
              repeat (go_big_quiet_step (exact qN.out _ _ _))
              refine wpQuiet_nil ?_
              intro _ hw'
              obtain ⟨⟨dq, osq⟩, hw''⟩ := hw'
              subst hw''
              have xx := Lib.hid (R.out.2.2.trans ((xB.out dq osq).mono R.out.2.2.size))
              obtain ⟨W, hW⟩ : ∃ W, W = grow (redrawn wr dq) osq := ⟨_, rfl⟩
              rw [← hW] at xx ⊢
              clear hW r0 r1 xB qN
              go_wp2_with fail
              go_roundg (n - (k + 1))
              case measure => have := R.out.1; omega
              case rel => exact ⟨k + 1, by omega, rfl, by go_num, fun j hj => by
                rcases Nat.lt_or_ge j k with h | h
                · exact R.out.2.1 j h
                · obtain rfl : j = k := by omega
                  refine ⟨LB.out, fun hp => ?_⟩
                  exact absurd hp (by have := H0.out; omega), xx.out⟩
            · obtain ⟨m, hm⟩ : ∃ m, m = k - 1 := ⟨_, rfl⟩
              have hkm : k = m + 1 := by omega
              obtain ⟨_, _, ea, p0, _⟩ := (V.out.below R.out.2.2).at m (by rw [← HN.out]; omega)
              cases ea
              obtain ⟨pk, hpk⟩ : ∃ pk, pk = (ls.getD m (⟨#[]⟩, ⟨#[]⟩)).1 := ⟨_, rfl⟩
              rw [← hpk] at p0
              have q0 : ∀ (dq : Nat) (os : Array Obj), (grow (redrawn wr dq) os).cell? ⟨b, off + m * 2, none⟩ = some (.string pk) := fun dq os => cell_regrown p0 dq os
              have em : ((k : Int) - 1) = (m : Int) := by omega
              have gk : decide ((k : Int) > 0) = true := decide_eq_true (by omega)
              have gk2 : decide (0 < k) = true := decide_eq_true (by omega)
              have gm : m < n := by omega
              have wm : IntKind.i64.wrap ((k : Int) - 1) = (m : Int) := by rw [em]; simp [IntKind.wrap, IntKind.bits, IntKind.signed]; omega
              have PK := Lib.hid (And.intro hpk hkm)
              have K0 := Lib.hid h0
              clear hpk hkm hm p0 h0
              cases hL : Op.bytesLess pk.toList key.toList with
              | true =>
                obtain ⟨l1, l2⟩ := less_asymm _ _ hL
                have HL := Lib.hid hL
                clear hL
                go_wp2_with fail
                refine wp_region_quiet_below (by kernel_rfl) (by kernel_rfl) ?_
                repeat (go_big_quiet_step (exact qN.out _ _ _))
                refine wpQuiet_nil ?_
                intro _ hw'
                obtain ⟨⟨dq, osq⟩, hw''⟩ := hw'
                subst hw''
                have xx := Lib.hid (R.out.2.2.trans ((xB.out dq osq).mono R.out.2.2.size))
                obtain ⟨W, hW⟩ : ∃ W, W = grow (redrawn wr dq) osq := ⟨_, rfl⟩
                rw [← hW] at xx ⊢
                clear hW r0 r1 q0 em gk gk2 gm wm l1 l2 xB qN
                go_wp2_with fail
                go_roundg (n - (k + 1))
                case measure => have := R.out.1; omega
                case rel => exact ⟨k + 1, by omega, rfl, by go_num, fun j hj => by
                  rcases Nat.lt_or_ge j k with h | h
                  · exact R.out.2.1 j h
                  · obtain rfl : j = k := by omega
                    refine ⟨LB.out, fun hp => ?_⟩
                    rw [show j - 1 = m by have := PK.out.2; omega, ← PK.out.1, ← XX.out]
                    exact HL.out, xx.out⟩
              | false =>
                have hr : Hid (validE ls = 42) := Lib.hid (by
                  unfold validE
                  rw [lblsB_down (k := k) (by rw [← HN.out]; exact hlt) (by have := K0.out; omega) (by rw [show k - 1 = m by have := PK.out.2; omega, ← PK.out.1, ← XX.out]; exact hL), if_neg (by simp)])
                cases hL2 : Op.bytesLess key.toList pk.toList with
                | true =>
                  clear hL
                  go_wp2_with fail
                  refine wp_region_quiet_below (by kernel_rfl) (by kernel_rfl) ?_
                  repeat (go_big_quiet_step (exact qN.out _ _ _))
                  refine wpQuiet_nil ?_
                  intro _ hw'
                  obtain ⟨⟨dq, osq⟩, hw''⟩ := hw'
                  subst hw''
                  go_wp2_with fail
                  go_ret
                  exact ⟨by rw [hr.out]; rfl, R.out.2.2.trans ((xB.out _ _).mono R.out.2.2.size)⟩
                | false =>
                  have l2 : (key.toList == pk.toList) = true := by rw [less_total _ _ hL2 hL]; simp
                  clear hL
                  go_wp2_with fail
                  refine wp_region_quiet_below (by kernel_rfl) (by kernel_rfl) ?_
                  repeat (go_big_quiet_step (exact qN.out _ _ _))
                  refine wpQuiet_nil ?_
                  intro _ hw'
                  obtain ⟨⟨dq, osq⟩, hw''⟩ := hw'
                  subst hw''
                  go_wp2_with fail
                  go_ret
                  exact ⟨by rw [hr.out]; rfl, R.out.2.2.trans ((xB.out _ _).mono R.out.2.2.size)⟩
          · have e0 : val.toList.isEmpty = false := by
              rw [list_of_bytes]
              cases h : val.data.toList with
              | nil => exact absurd h h0v
              | cons x r => rfl
            cases nv with
            | false =>
              have hr : Hid (validE ls = 42) := Lib.hid (BADQ.out (by
                unfold lblB valueB
                have hz : ¬ val.size = 0 := fun h => h0v (List.length_eq_zero_iff.1 (by simpa using h))
                simp [← KV.out.2, hz]))
              clear h0v
              go_wp2_with fail
              refine wp_region_quiet_below (by kernel_rfl) (by kernel_rfl) ?_
              repeat (go_big_quiet_step (exact qN.out _ _ _))
              refine wpQuiet_nil ?_
              intro _ hw'
              obtain ⟨⟨dq, osq⟩, hw''⟩ := hw'
              subst hw''
              go_wp2_with fail
              go_ret
              exact ⟨by rw [hr.out]; rfl, R.out.2.2.trans ((xB.out _ _).mono R.out.2.2.size)⟩
            | true =>
              have LB : Hid (lblB (ls.getD k (⟨#[]⟩, ⟨#[]⟩)) = true) := Lib.hid (by
                rw [← XX.out]
                unfold lblB valueB
                simp [← KV.out.1, ← KV.out.2])
              clear h0v
              by_cases h0 : k = 0
              · have gk2 : decide (0 < k) = false := decide_eq_false (by omega)
                have gk : decide ((k : Int) > 0) = false := decide_eq_false (by omega)
                have H0 := Lib.hid h0
                clear h0
                go_wp2_with fail
                refine wp_region_quiet_below (by kernel_rfl) (by kernel_rfl) ?_
                repeat (go_big_quiet_step (exact qN.out _ _ _))
                refine wpQuiet_nil ?_
                intro _ hw'
                obtain ⟨⟨dq, osq⟩, hw''⟩ := hw'
                subst hw''
                have xx := Lib.hid (R.out.2.2.trans ((xB.out dq osq).mono R.out.2.2.size))
                obtain ⟨W, hW⟩ : ∃ W, W = grow (redrawn wr dq) osq := ⟨_, rfl⟩
                rw [← hW] at xx ⊢
                clear hW r0 r1 xB qN
                go_wp2_with fail
                go_roundg (n - (k + 1))
                case measure => have := R.out.1; omega
                case rel => exact ⟨k + 1, by omega, rfl, by go_num, fun j hj => by
                  rcases Nat.lt_or_ge j k with h | h
                  · exact R.out.2.1 j h
                  · obtain rfl : j = k := by omega
                    refine ⟨LB.out, fun hp => ?_⟩
                    exact absurd hp (by have := H0.out; omega), xx.out⟩
              · obtain ⟨m, hm⟩ : ∃ m, m = k - 1 := ⟨_, rfl⟩
                have hkm : k = m + 1 := by omega
                obtain ⟨_, _, ea, p0, _⟩ := (V.out.below R.out.2.2).at m (by rw [← HN.out]; omega)
                cases ea
                obtain ⟨pk, hpk⟩ : ∃ pk, pk = (ls.getD m (⟨#[]⟩, ⟨#[]⟩)).1 := ⟨_, rfl⟩
                rw [← hpk] at p0
                have q0 : ∀ (dq : Nat) (os : Array Obj), (grow (redrawn wr dq) os).cell? ⟨b, off + m * 2, none⟩ = some (.string pk) := fun dq os => cell_regrown p0 dq os
                have em : ((k : Int) - 1) = (m : Int) := by omega
                have gk : decide ((k : Int) > 0) = true := decide_eq_true (by omega)
                have gk2 : decide (0 < k) = true := decide_eq_true (by omega)
                have gm : m < n := by omega
                have wm : IntKind.i64.wrap ((k : Int) - 1) = (m : Int) := by rw [em]; simp [IntKind.wrap, IntKind.bits, IntKind.signed]; omega
                have PK := Lib.hid (And.intro hpk hkm)
                have K0 := Lib.hid h0
                clear hpk hkm hm p0 h0
                cases hL : Op.bytesLess pk.toList key.toList with
                | true =>
                  obtain ⟨l1, l2⟩ := less_asymm _ _ hL
                  have HL := Lib.hid hL
                  clear hL
                  go_wp2_with fail
                  refine wp_region_quiet_below (by kernel_rfl) (by kernel_rfl) ?_
                  repeat (go_big_quiet_step (exact qN.out _ _ _))
                  refine wpQuiet_nil ?_
                  intro _ hw'
                  obtain ⟨⟨dq, osq⟩, hw''⟩ := hw'
                  subst hw''
                  have xx := Lib.hid (R.out.2.2.trans ((xB.out dq osq).mono R.out.2.2.size))
                  obtain ⟨W, hW⟩ : ∃ W, W = grow (redrawn wr dq) osq := ⟨_, rfl⟩
                  rw [← hW] at xx ⊢
                  clear hW r0 r1 q0 em gk gk2 gm wm l1 l2 xB qN
                  go_wp2_with fail
                  go_roundg (n - (k + 1))
                  case measure => have := R.out.1; omega
                  case rel => exact ⟨k + 1, by omega, rfl, by go_num, fun j hj => by
                    rcases Nat.lt_or_ge j k with h | h
                    · exact R.out.2.1 j h
                    · obtain rfl : j = k := by omega
                      refine ⟨LB.out, fun hp => ?_⟩
                      rw [show j - 1 = m by have := PK.out.2; omega, ← PK.out.1, ← XX.out]
                      exact HL.out, xx.out⟩
                | false =>
                  have hr : Hid (validE ls = 42) := Lib.hid (by
                    unfold validE
                    rw [lblsB_down (k := k) (by rw [← HN.out]; exact hlt) (by have := K0.out; omega) (by rw [show k - 1 = m by have := PK.out.2; omega, ← PK.out.1, ← XX.out]; exact hL), if_neg (by simp)])
                  cases hL2 : Op.bytesLess key.toList pk.toList with
                  | true =>
                    clear hL
                    go_wp2_with fail
                    refine wp_region_quiet_below (by kernel_rfl) (by kernel_rfl) ?_
                    repeat (go_big_quiet_step (exact qN.out _ _ _))
                    refine wpQuiet_nil ?_
                    intro _ hw'
                    obtain ⟨⟨dq, osq⟩, hw''⟩ := hw'
                    subst hw''
                    go_wp2_with fail
                    go_ret
                    exact ⟨by rw [hr.out]; rfl, R.out.2.2.trans ((xB.out _ _).mono R.out.2.2.size)⟩
                  | false =>
                    have l2 : (key.toList == pk.toList) = true := by rw [less_total _ _ hL2 hL]; simp
                    clear hL
                    go_wp2_with fail
                    refine wp_region_quiet_below (by kernel_rfl) (by kernel_rfl) ?_
                    repeat (go_big_quiet_step (exact qN.out _ _ _))
                    refine wpQuiet_nil ?_
                    intro _ hw'
                    obtain ⟨⟨dq, osq⟩, hw''⟩ := hw'
                    subst hw''
                    go_wp2_with fail
                    go_ret
                    exact ⟨by rw [hr.out]; rfl, R.out.2.2.trans ((xB.out _ _).mono R.out.2.2.size)⟩
      · have hr : Hid (validE ls = 0) := Lib.hid (by
          unfold validE
          rw [lblsB_yes (by rw [← HN.out]; exact h16) (fun j hj => R.out.2.1 j (by have := HN.out; omega)), if_pos rfl])
        go_wp2_with fail
        go_ret
        exact ⟨by rw [hr.out]; rfl, R.out.2.2⟩
  · have g16 : decide ((n : Int) > 16) = true := decide_eq_true (by omega)
    have hr : Hid (validE ls = 42) := Lib.hid (by
      unfold validE lblsB
      rw [decide_eq_false (by rw [← HN.out]; exact h16), Bool.false_and, if_neg (by simp)])
    go_enter Tryd.func25, Tryd.ntmps25
    go_wp2_with fail
    go_ret
    exact ⟨by rw [hr.out]; rfl, Below.refl _ _⟩
end Go.Proofs.YthbbdhhkamccbaaDoor
