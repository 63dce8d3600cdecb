/-
  The document's written, Print.
-/
import Derived.Test.YthbbdhhkamccbaaDoorRefT2
namespace Go.Proofs.YthbbdhhkamccbaaDoor
open Go.RowKit Go.Sort
theorem jn_snoc (c : UInt8) (xs : List (List UInt8)) (x : List UInt8) (h : xs ≠ []) : jn c (xs ++ [x]) = jn c xs ++ c :: x := by
  induction xs with
  | nil => exact absurd rfl h
  | cons y r ih =>
    cases r with
    | nil => rfl
    | cons z r =>
      show jn c (y :: ((z :: r) ++ [x])) = _
      rw [jn_cons c y _ (by simp), ih (by simp), jn_cons c y (z :: r) (by simp), List.append_assoc]
      rfl
theorem jn_one (c : UInt8) (x : List UInt8) : jn c [x] = x := rfl
/-- The text so far. -/
def sofar (base : List UInt8) (ts : List ByteArray) (j : Nat) : ByteArray := bys (base ++ jn 32 ((ts.take j).map (·.data.toList)))
theorem sofar_zero (base : List UInt8) (ts : List ByteArray) : sofar base ts 0 = bys base := by
  unfold sofar
  simp [jn]
theorem sofar_first (base : List UInt8) (ts : List ByteArray) (h : 0 < ts.length) : sofar base ts 1 = sofar base ts 0 ++ ts.getD 0 eB := by
  rw [sofar_zero, app_bys, data_bys]
  unfold sofar
  rw [show (1 : Nat) = 0 + 1 from rfl, take_one ts 0 eB h]
  rfl
theorem sofar_next (base : List UInt8) (ts : List ByteArray) (j : Nat) (h0 : 0 < j) (h : j < ts.length) : sofar base ts (j + 1) = sofar base ts j ++ ⟨#[32]⟩ ++ ts.getD j eB := by
  rw [app_bys, app_bys, data_bys]
  unfold sofar
  rw [data_bys, take_one ts j eB h, List.map_append, List.map_singleton, jn_snoc 32 _ _ (by
    intro e
    have := congrArg List.length e
    rw [List.length_map, List.length_take] at this
    simp only [List.length_nil] at this
    omega)]
  simp
theorem sofar_size (base : List UInt8) (ts : List ByteArray) (j : Nat) (hb : base.length ≤ 64) (h8 : ts.length ≤ 8) (h : ∀ t ∈ ts, t.size ≤ 32) : (sofar base ts j).size ≤ 400 := by
  unfold sofar
  rw [bys_size, List.length_append]
  have := jn_small 32 (ts.take j) 32 fun t ht => h t (List.mem_of_mem_take ht)
  have l : (ts.take j).length ≤ 8 := by rw [List.length_take]; omega
  omega
set_option maxHeartbeats 8000000 in
set_option maxRecDepth 100000 in
theorem refWritten_any (x : Trm) (w : World) (hx : x.At w) (hv : invalidB x = false) :
    Calls Tryd.prog 43 #[.agg x.cells.toArray] w fun e w' => e = .returned (.string (bys (wr3 (t3 x)))) ∧ Below w.heap.size w w' := by
  have hp := valid_parts hv
  have kz := (nm_size hp.1).2
  obtain ⟨key, how, vals, ts⟩ := x
  have X := Lib.hid hx
  obtain ⟨a, cap, hvv, hlc, hcm⟩ := hx.1.len
  simp only at kz hvv hp
  subst hvv
  unfold maxLen at hcm
  unfold Trm.cells
  obtain ⟨n, hn⟩ : ∃ n, n = ts.length := ⟨_, rfl⟩
  rw [← hn] at hlc X ⊢
  have HN := Lib.hid hn
  obtain ⟨W1, hW1⟩ : ∃ W, W = w.alloc (.cells #[.string key, .int .i64 how, .slice a n cap] 41) := ⟨_, rfl⟩
  have c0 : W1.cell? ⟨w.heap.size, 0, none⟩ = some (.string key) := by rw [hW1, World.cell?_alloc_new]; rfl
  have c1 : W1.cell? ⟨w.heap.size, 1, none⟩ = some (.int .i64 how) := by rw [hW1, World.cell?_alloc_new]; rfl
  have c2 : W1.cell? ⟨w.heap.size, 2, none⟩ = some (.slice a n cap) := by rw [hW1, World.cell?_alloc_new]; rfl
  have B1 : Hid (Below w.heap.size w W1) := Lib.hid (by rw [hW1]; exact (Below.refl _ w).alloc (Nat.le_refl _) _)
  have hW' := hW1.symm
  clear hW1 hx hn hv
  rcases hp.2 with ⟨hh, hvs⟩ | ⟨hh, hts⟩
  · obtain ⟨v1, v8, vcl⟩ := values_clean hvs
    have hsz : ∀ t ∈ ts, t.size ≤ 32 := fun t ht => (vcl t ht).2
    rw [← HN.out] at v1 v8
    by_cases one : n = 1
    · obtain ⟨b, off, rfl, pi⟩ := (X.out.1.below B1.out).at 0 (by simp only; rw [← HN.out]; omega)
      simp only [Nat.add_zero] at pi
      obtain ⟨t, ht⟩ : ∃ t, t = ts.getD 0 eB := ⟨_, rfl⟩
      have pi' : W1.cell? ⟨b, off, none⟩ = some (.string t) := by rw [ht]; exact pi
      have ets : ts = [t] := by
        cases ts with
        | nil => rw [HN.out] at one; simp at one
        | cons u r =>
          have hl := HN.out
          have : r = [] := List.length_eq_zero_iff.1 (by simp only [List.length_cons] at hl; omega)
          subst this
          rw [ht]; rfl
      have tz : t.size ≤ 32 := hsz t (by rw [ets]; simp)
      have xB : Hid (∀ (dq : Nat) (os : Array Obj), Below W1.heap.size W1 (grow (redrawn W1 dq) os)) := fun dq os => below_regrown W1 dq os
      have d0 : ∀ (dq : Nat) (os : Array Obj), (grow (redrawn W1 dq) os).cell? ⟨w.heap.size, 0, none⟩ = some (.string key) := fun dq os => cell_regrown c0 dq os
      have d2 : ∀ (dq : Nat) (os : Array Obj), (grow (redrawn W1 dq) os).cell? ⟨w.heap.size, 2, none⟩ = some (.slice (some ⟨b, off, none⟩) n cap) := fun dq os => cell_regrown c2 dq os
      have d3 : ∀ (dq : Nat) (os : Array Obj), (grow (redrawn W1 dq) os).cell? ⟨b, off, none⟩ = some (.string t) := fun dq os => cell_regrown pi' dq os
      have WV : Hid (∀ h : Int, (h = 0 → bys (wr3 (t3 ⟨key, h, .slice (some ⟨b, off, none⟩) n cap, ts⟩)) = key ++ ⟨#[61]⟩ ++ t) ∧ (h = 1 → bys (wr3 (t3 ⟨key, h, .slice (some ⟨b, off, none⟩) n cap, ts⟩)) = key ++ ⟨#[33, 61]⟩ ++ t)) := Lib.hid fun h => by
        rw [ets]
        refine ⟨fun e => ?_, fun e => ?_⟩
        · subst e
          rw [app_bys, app_bys, data_bys, List.append_assoc]; rfl
        · subst e
          rw [app_bys, app_bys, data_bys, List.append_assoc]; rfl
      subst one
      clear pi ht ets hsz vcl hvs
      rcases hh with rfl | rfl
      · have s1 : key.size + 1 ≤ 9223372036854775807 := by omega
        have s2 : (key ++ ⟨#[61]⟩).size + t.size ≤ 9223372036854775807 := by rw [ByteArray.size_append]; show key.size + 1 + t.size ≤ _; omega
        have s3 : key.size + 1 + t.size ≤ 9223372036854775807 := by omega
        have hr := Lib.hid ((WV.out 0).1 rfl)
        clear WV
        go_enter Tryd.func43, Tryd.ntmps43
        go_wp2_with fail
        refine wp_region_quiet_below (by kernel_rfl) (by kernel_rfl) ?_
        repeat (go_big_quiet_step (fail))
        refine wpQuiet_nil ?_
        intro _ hw'
        obtain ⟨⟨dq, osq⟩, hw''⟩ := hw'
        subst hw''
        go_wp2_with fail
        go_ret
        exact ⟨by rw [hr.out]; rfl, B1.out.trans ((xB.out _ _).mono B1.out.size)⟩
      · have s1 : key.size + 2 ≤ 9223372036854775807 := by omega
        have s2 : (key ++ ⟨#[33, 61]⟩).size + t.size ≤ 9223372036854775807 := by rw [ByteArray.size_append]; show key.size + 2 + t.size ≤ _; omega
        have s3 : key.size + 2 + t.size ≤ 9223372036854775807 := by omega
        have hr := Lib.hid ((WV.out 1).2 rfl)
        clear WV
        go_enter Tryd.func43, Tryd.ntmps43
        go_wp2_with fail
        refine wp_region_quiet_below (by kernel_rfl) (by kernel_rfl) ?_
        repeat (go_big_quiet_step (fail))
        refine wpQuiet_nil ?_
        intro _ hw'
        obtain ⟨⟨dq, osq⟩, hw''⟩ := hw'
        subst hw''
        go_wp2_with fail
        go_ret
        exact ⟨by rw [hr.out]; rfl, B1.out.trans ((xB.out _ _).mono B1.out.size)⟩
    · have n1 : ((n : Int) == 1) = false := by rw [beq_eq_false_iff_ne]; omega
      have SX := Lib.hid (X.out.1.below B1.out)
      have SZ := Lib.hid hsz
      have V8 := Lib.hid v8
      clear hsz vcl hvs
      rcases hh with rfl | rfl
      · have s0 : key.size + 5 ≤ 9223372036854775807 := by omega
        have hbase : sofar (key.data.toList ++ WI) ts 0 = key ++ ⟨#[32, 105, 110, 32, 40]⟩ := by rw [sofar_zero, app_bys]; rfl
        have HB := Lib.hid hbase
        have kl : (key.data.toList ++ WI).length ≤ 64 := by
          have h1 : key.data.toList.length = key.size := by simp
          have h2 : (WI).length ≤ 8 := by decide
          rw [List.length_append]
          omega
        have SS := Lib.hid fun j => sofar_size (key.data.toList ++ WI) ts j kl (by rw [← HN.out]; exact v8) SZ.out
        clear kl
        have hr : Hid (bys (wr3 (t3 ⟨key, 0, .slice a n cap, ts⟩)) = sofar (key.data.toList ++ WI) ts n ++ ⟨#[41]⟩) := Lib.hid (by
          unfold wr3 wv3 t3 sofar
          simp only [List.length_map]
          rw [if_neg (show ¬ ((0 : Int) = 2) by decide), if_neg (show ¬ ((0 : Int) = 3) by decide), if_pos trivial, if_neg (by rw [← HN.out]; exact one), app_bys, data_bys, List.take_of_length_le (by rw [HN.out]; exact Nat.le_refl _)]
          simp)
        clear hbase
        go_enter Tryd.func43, Tryd.ntmps43
        go_wp2_with fail
        clear s0 n1
        rw [← HB.out]
        go_loopg [3, 4] n (fun g ss sj wr => ∃ (j : Nat), j ≤ n ∧ g = n - j ∧ ss = .string (sofar (key.data.toList ++ WI) ts j) ∧ sj = .int .i64 j ∧ wr = W1)
        case atStart => exact ⟨0, Nat.zero_le _, rfl, rfl, rfl, rfl⟩
        case round =>
          obtain ⟨j, hj, hg, rfl, rfl, hwr⟩ := hrel
          subst hwr
          have R : Aside (gk = n - j) := hg
          clear hg
          obtain ⟨s, hs⟩ : ∃ s, s = sofar (key.data.toList ++ WI) ts j := ⟨_, rfl⟩
          have sz : s.size ≤ 400 := by rw [hs]; exact SS.out j
          rw [← hs]
          have HS := Lib.hid hs
          clear hs
          by_cases hlt : j < n
          · have hlt' : (j : Int) < (n : Int) := by omega
            obtain ⟨b, off, rfl, pi⟩ := SX.out.at j (by rw [← HN.out]; exact hlt)
            obtain ⟨t, ht⟩ : ∃ t, t = ts.getD j eB := ⟨_, rfl⟩
            have pi' : wr.cell? ⟨b, off + j, none⟩ = some (.string t) := by rw [ht]; exact pi
            have tz : t.size ≤ 32 := SZ.out t (by
              rw [ht, List.getD_eq_getElem?_getD, List.getElem?_eq_getElem (by rw [← HN.out]; exact hlt)]
              exact List.getElem_mem _)
            have HT := Lib.hid ht
            have s1 : s.size + 1 ≤ 9223372036854775807 := by omega
            have s2 : s.size + t.size ≤ 9223372036854775807 := by omega
            have s3 : (s ++ ⟨#[32]⟩).size + t.size ≤ 9223372036854775807 := by rw [ByteArray.size_append]; show s.size + 1 + t.size ≤ _; omega
            have s4 : s.size + 1 + t.size ≤ 9223372036854775807 := by omega
            clear pi ht
            by_cases h0 : j = 0
            · subst h0
              rw [Nat.add_zero] at pi'
              go_wp2_with fail
              go_roundg (n - (0 + 1))
              case measure => have := R.out; omega
              case rel => exact ⟨1, by omega, rfl, by rw [sofar_first _ _ (by rw [← HN.out]; omega), HS.out, HT.out], rfl, rfl⟩
            · have g0 : decide (0 < j) = true := decide_eq_true (by omega)
              have g1 : decide ((j : Int) > 0) = true := decide_eq_true (by omega)
              have H0 := Lib.hid h0
              go_wp2_with fail
              go_roundg (n - (j + 1))
              case measure => have := R.out; omega
              case rel => exact ⟨j + 1, by omega, rfl, by rw [sofar_next _ _ j (by have := H0.out; omega) (by rw [← HN.out]; exact hlt), HS.out, HT.out], by go_num, rfl⟩
          · have hge : decide ((j : Int) < (n : Int)) = false := decide_eq_false (by omega)
            have ej : j = n := by omega
            have s1 : s.size + 1 ≤ 9223372036854775807 := by omega
            go_wp2_with fail
            go_ret
            exact ⟨by rw [hr.out, HS.out, ej]; rfl, B1.out⟩
      · have s0 : key.size + 8 ≤ 9223372036854775807 := by omega
        have s5 : key.size + 5 ≤ 9223372036854775807 := by omega
        have hbase : sofar (key.data.toList ++ WO) ts 0 = key ++ ⟨#[32, 110, 111, 116, 105, 110, 32, 40]⟩ := by rw [sofar_zero, app_bys]; rfl
        have HB := Lib.hid hbase
        have kl : (key.data.toList ++ WO).length ≤ 64 := by
          have h1 : key.data.toList.length = key.size := by simp
          have h2 : (WO).length ≤ 8 := by decide
          rw [List.length_append]
          omega
        have SS := Lib.hid fun j => sofar_size (key.data.toList ++ WO) ts j kl (by rw [← HN.out]; exact v8) SZ.out
        clear kl
        have hr : Hid (bys (wr3 (t3 ⟨key, 1, .slice a n cap, ts⟩)) = sofar (key.data.toList ++ WO) ts n ++ ⟨#[41]⟩) := Lib.hid (by
          unfold wr3 wv3 t3 sofar
          simp only [List.length_map]
          rw [if_neg (show ¬ ((1 : Int) = 2) by decide), if_neg (show ¬ ((1 : Int) = 3) by decide), if_neg (show ¬ ((1 : Int) = 0) by decide), if_neg (by rw [← HN.out]; exact one), app_bys, data_bys, List.take_of_length_le (by rw [HN.out]; exact Nat.le_refl _)]
          simp)
        clear hbase
        go_enter Tryd.func43, Tryd.ntmps43
        go_wp2_with fail
        clear s0 n1
        rw [← HB.out]
        go_loopg [3, 4] n (fun g ss sj wr => ∃ (j : Nat), j ≤ n ∧ g = n - j ∧ ss = .string (sofar (key.data.toList ++ WO) ts j) ∧ sj = .int .i64 j ∧ wr = W1)
        case atStart => exact ⟨0, Nat.zero_le _, rfl, rfl, rfl, rfl⟩
        case round =>
          obtain ⟨j, hj, hg, rfl, rfl, hwr⟩ := hrel
          subst hwr
          have R : Aside (gk = n - j) := hg
          clear hg
          obtain ⟨s, hs⟩ : ∃ s, s = sofar (key.data.toList ++ WO) ts j := ⟨_, rfl⟩
          have sz : s.size ≤ 400 := by rw [hs]; exact SS.out j
          rw [← hs]
          have HS := Lib.hid hs
          clear hs
          by_cases hlt : j < n
          · have hlt' : (j : Int) < (n : Int) := by omega
            obtain ⟨b, off, rfl, pi⟩ := SX.out.at j (by rw [← HN.out]; exact hlt)
            obtain ⟨t, ht⟩ : ∃ t, t = ts.getD j eB := ⟨_, rfl⟩
            have pi' : wr.cell? ⟨b, off + j, none⟩ = some (.string t) := by rw [ht]; exact pi
            have tz : t.size ≤ 32 := SZ.out t (by
              rw [ht, List.getD_eq_getElem?_getD, List.getElem?_eq_getElem (by rw [← HN.out]; exact hlt)]
              exact List.getElem_mem _)
            have HT := Lib.hid ht
            have s1 : s.size + 1 ≤ 9223372036854775807 := by omega
            have s2 : s.size + t.size ≤ 9223372036854775807 := by omega
            have s3 : (s ++ ⟨#[32]⟩).size + t.size ≤ 9223372036854775807 := by rw [ByteArray.size_append]; show s.size + 1 + t.size ≤ _; omega
            have s4 : s.size + 1 + t.size ≤ 9223372036854775807 := by omega
            clear pi ht
            by_cases h0 : j = 0
            · subst h0
              rw [Nat.add_zero] at pi'
              go_wp2_with fail
              go_roundg (n - (0 + 1))
              case measure => have := R.out; omega
              case rel => exact ⟨1, by omega, rfl, by rw [sofar_first _ _ (by rw [← HN.out]; omega), HS.out, HT.out], rfl, rfl⟩
            · have g0 : decide (0 < j) = true := decide_eq_true (by omega)
              have g1 : decide ((j : Int) > 0) = true := decide_eq_true (by omega)
              have H0 := Lib.hid h0
              go_wp2_with fail
              go_roundg (n - (j + 1))
              case measure => have := R.out; omega
              case rel => exact ⟨j + 1, by omega, rfl, by rw [sofar_next _ _ j (by have := H0.out; omega) (by rw [← HN.out]; exact hlt), HS.out, HT.out], by go_num, rfl⟩
          · have hge : decide ((j : Int) < (n : Int)) = false := decide_eq_false (by omega)
            have ej : j = n := by omega
            have s1 : s.size + 1 ≤ 9223372036854775807 := by omega
            go_wp2_with fail
            go_ret
            exact ⟨by rw [hr.out, HS.out, ej]; rfl, B1.out⟩
  · subst hts
    have n0 : n = 0 := HN.out
    subst n0
    rcases hh with rfl | rfl
    · have hr : Hid (bys (wr3 (t3 ⟨key, 2, .slice a 0 cap, []⟩)) = key) := Lib.hid (bys_data key)
      go_enter Tryd.func43, Tryd.ntmps43
      go_wp2_with fail
      go_ret
      exact ⟨by rw [hr.out]; rfl, B1.out⟩
    · have hr : Hid (bys (wr3 (t3 ⟨key, 3, .slice a 0 cap, []⟩)) = ⟨#[33]⟩ ++ key) := Lib.hid (by rw [app_bys]; rfl)
      have s1 : 1 + key.size ≤ 9223372036854775807 := by omega
      go_enter Tryd.func43, Tryd.ntmps43
      go_wp2_with fail
      go_ret
      exact ⟨by rw [hr.out]; rfl, B1.out⟩
end Go.Proofs.YthbbdhhkamccbaaDoor
