/-
  The document's term, terms.
-/
import Derived.Test.YthbbdhhkamccbaaDoorRefT
namespace Go.Proofs.YthbbdhhkamccbaaDoor
open Go.RowKit Go.Sort
set_option maxHeartbeats 8000000 in
set_option maxRecDepth 100000 in
theorem refTerm_any (x : Trm) (w : World) (hx : x.At w) :
    Calls Tryd.prog 59 #[.agg x.cells.toArray] w fun e w' => e = .returned (.bool (!invalidB x)) ∧ Below w.heap.size w w' := by
  have RV := Lib.hid fun (i : Nat) W (h : Below w.heap.size w W) (hi : i < x.ts.length) => refValue_any x i W (hx.below h) hi
  obtain ⟨key, how, vals, ts⟩ := x
  obtain ⟨a, cap, hv, hlc, hcm⟩ := hx.1.len
  simp only at hv RV
  subst hv
  unfold maxLen at hcm
  unfold Trm.cells at *
  obtain ⟨n, hn⟩ : ∃ n, n = ts.length := ⟨_, rfl⟩
  rw [← hn] at hlc RV ⊢
  have HN := Lib.hid hn
  obtain ⟨W1, hW1⟩ : ∃ W, W = w.alloc (.cells #[.string key, .int .i64 how, .slice a n cap] 41) := ⟨_, rfl⟩
  have c0 : W1.cell? ⟨w.heap.size, 0, none⟩ = some (.string key) := by rw [hW1, World.cell?_alloc_new]; rfl
  have c1 : W1.cell? ⟨w.heap.size, 1, none⟩ = some (.int .i64 how) := by rw [hW1, World.cell?_alloc_new]; rfl
  have c2 : W1.cell? ⟨w.heap.size, 2, none⟩ = some (.slice a n cap) := by rw [hW1, World.cell?_alloc_new]; rfl
  have CC : Hid (W1.cell? ⟨w.heap.size, 0, none⟩ = some (.string key) ∧ W1.cell? ⟨w.heap.size, 1, none⟩ = some (.int .i64 how) ∧ W1.cell? ⟨w.heap.size, 2, none⟩ = some (.slice a n cap)) := ⟨c0, c1, c2⟩
  have B1 : Hid (Below w.heap.size w W1) := Lib.hid (by rw [hW1]; exact (Below.refl _ w).alloc (Nat.le_refl _) _)
  have NK := Lib.hid (refName_any key)
  have hW' := hW1.symm
  clear hW1 hx hn
  have UF : Hid (∀ z : Bool, (!invalidB ⟨key, how, .slice a n cap, ts⟩) = (nameB key && (if how = 0 ∨ how = 1 then valuesB ts else if how = 2 ∨ how = 3 then decide (ts.length = 0) else false))) := Lib.hid fun _ => by unfold invalidB; rw [Bool.not_not]
  cases hN : nameB key with
  | false =>
    rw [hN] at NK
    have hr : Hid ((!invalidB ⟨key, how, .slice a n cap, ts⟩) = false) := Lib.hid (by rw [UF.out true, hN]; rfl)
    go_enter Tryd.func59, Tryd.ntmps59
    go_wp2_with fail
    refine (NK.out _).mono ?_
    rintro e w2 ⟨rfl, rfl⟩
    go_wp2_with fail
    go_ret
    exact ⟨by rw [hr.out]; rfl, B1.out⟩
  | true =>
    rw [hN] at NK
    by_cases hlo : how < 0
    · have g1 : decide (how < 0) = true := decide_eq_true hlo
      have hr : Hid ((!invalidB ⟨key, how, .slice a n cap, ts⟩) = false) := Lib.hid (by rw [UF.out true, if_neg (by omega), if_neg (by omega), Bool.and_false])
      go_enter Tryd.func59, Tryd.ntmps59
      go_wp2_with fail
      refine (NK.out _).mono ?_
      rintro e w2 ⟨rfl, rfl⟩
      go_wp2_with fail
      go_ret
      exact ⟨by rw [hr.out]; rfl, B1.out⟩
    have g1 : decide (how < 0) = false := decide_eq_false hlo
    by_cases hhi : how > 3
    · have g2 : decide (how > 3) = true := decide_eq_true hhi
      have hr : Hid ((!invalidB ⟨key, how, .slice a n cap, ts⟩) = false) := Lib.hid (by rw [UF.out true, if_neg (by omega), if_neg (by omega), Bool.and_false])
      go_enter Tryd.func59, Tryd.ntmps59
      go_wp2_with fail
      refine (NK.out _).mono ?_
      rintro e w2 ⟨rfl, rfl⟩
      go_wp2_with fail
      go_ret
      exact ⟨by rw [hr.out]; rfl, B1.out⟩
    have g2 : decide (how > 3) = false := decide_eq_false hhi
    by_cases h1 : how > 1
    · have g3 : decide (how > 1) = true := decide_eq_true h1
      have hr : Hid ((!invalidB ⟨key, how, .slice a n cap, ts⟩) = decide (n = 0)) := Lib.hid (by rw [UF.out true, hN, if_neg (by omega), if_pos (by omega), Bool.true_and, ← HN.out])
      have gn : ((n : Int) == 0) = decide (n = 0) := by
        by_cases h : n = 0
        · rw [decide_eq_true h, beq_iff_eq]; omega
        · rw [decide_eq_false h, beq_eq_false_iff_ne]; omega
      obtain ⟨z, hz⟩ : ∃ z, z = decide (n = 0) := ⟨_, rfl⟩
      rw [← hz] at gn hr
      clear hz
      go_enter Tryd.func59, Tryd.ntmps59
      go_wp2_with fail
      refine (NK.out _).mono ?_
      rintro e w2 ⟨rfl, rfl⟩
      go_wp2_with fail
      go_ret
      exact ⟨by rw [hr.out]; rfl, B1.out⟩
    have g3 : decide (how > 1) = false := decide_eq_false h1
    have UV : Hid ((!invalidB ⟨key, how, .slice a n cap, ts⟩) = valuesB ts) := Lib.hid (by rw [UF.out true, hN, if_pos (by omega), Bool.true_and])
    by_cases hn1 : n < 1
    · have g4 : decide ((n : Int) < 1) = true := decide_eq_true (by omega)
      have hr : Hid ((!invalidB ⟨key, how, .slice a n cap, ts⟩) = false) := Lib.hid (by
        rw [UV.out]
        unfold valuesB
        rw [if_neg (by rw [← HN.out]; omega), decide_eq_false (by rw [← HN.out]; omega)]
        rfl)
      go_enter Tryd.func59, Tryd.ntmps59
      go_wp2_with fail
      refine (NK.out _).mono ?_
      rintro e w2 ⟨rfl, rfl⟩
      go_wp2_with fail
      go_ret
      exact ⟨by rw [hr.out]; rfl, B1.out⟩
    have g4 : decide ((n : Int) < 1) = false := decide_eq_false (by omega)
    by_cases hn8 : n > 8
    · have g5 : decide ((n : Int) > 8) = true := decide_eq_true (by omega)
      have hr : Hid ((!invalidB ⟨key, how, .slice a n cap, ts⟩) = false) := Lib.hid (by
        rw [UV.out]
        unfold valuesB
        rw [if_neg (by rw [← HN.out]; omega), decide_eq_false (show ¬ ts.length ≤ 8 by rw [← HN.out]; omega), Bool.and_false]
        rfl)
      go_enter Tryd.func59, Tryd.ntmps59
      go_wp2_with fail
      refine (NK.out _).mono ?_
      rintro e w2 ⟨rfl, rfl⟩
      go_wp2_with fail
      go_ret
      exact ⟨by rw [hr.out]; rfl, B1.out⟩
    have g5 : decide ((n : Int) > 8) = false := decide_eq_false (by omega)
    have VA : Hid (valuesB ts = true ↔ ∀ i, i < ts.length → valAtB ts i = true) := Lib.hid (values_at (by rw [← HN.out]; omega) (by rw [← HN.out]; omega))
    go_enter Tryd.func59, Tryd.ntmps59
    go_wp2_with fail
    refine (NK.out _).mono ?_
    rintro e w2 ⟨rfl, rfl⟩
    go_wp2_with fail
    clear g1 g2 g3 g4 g5 c0 c1 c2 NK
    go_loopg [4] n (fun g sj wr => ∃ (j : Nat), j ≤ n ∧ g = n - j ∧ sj = .int .i64 j ∧ (∀ q, q < j → valAtB ts q = true) ∧ Below w2.heap.size w2 wr)
    case atStart => exact ⟨0, Nat.zero_le _, rfl, rfl, fun q hq => absurd hq (Nat.not_lt_zero _), Below.refl _ _⟩
    case round =>
      obtain ⟨j, hj, hg, rfl, hpr, hb⟩ := hrel
      have R : Aside (gk = n - j ∧ (∀ q, q < j → valAtB ts q = true) ∧ Below w2.heap.size w2 wr) := ⟨hg, hpr, hb⟩
      have c0 : wr.cell? ⟨w.heap.size, 0, none⟩ = some (.string key) := (hb.cell (block_lt_of_cell CC.out.1)).trans CC.out.1
      have c1 : wr.cell? ⟨w.heap.size, 1, none⟩ = some (.int .i64 how) := (hb.cell (block_lt_of_cell CC.out.2.1)).trans CC.out.2.1
      have c2 : wr.cell? ⟨w.heap.size, 2, none⟩ = some (.slice a n cap) := (hb.cell (block_lt_of_cell CC.out.2.2)).trans CC.out.2.2
      have BR := Lib.hid (B1.out.trans (hb.mono B1.out.size))
      clear hg hpr hb
      by_cases hlt : j < n
      · have hlt' : (j : Int) < (n : Int) := by omega
        have RJ := Lib.hid (RV.out j wr BR.out hlt)
        cases hz : valAtB ts j with
        | false =>
          rw [hz] at RJ
          have hr : Hid ((!invalidB ⟨key, how, .slice a n cap, ts⟩) = false) := Lib.hid (by
            rw [UV.out]
            cases hvb : valuesB ts with
            | false => rfl
            | true =>
              have := VA.out.1 hvb j (by rw [← HN.out]; exact hlt)
              rw [hz] at this
              cases this)
          go_wp2_with fail
          refine RJ.out.mono ?_
          rintro e w3 ⟨rfl, hb⟩
          have B3 := Lib.hid (BR.out.trans (hb.mono BR.out.size))
          clear hb
          go_wp2_with fail
          go_ret
          exact ⟨by rw [hr.out]; rfl, B3.out⟩
        | true =>
          rw [hz] at RJ
          have HZ := Lib.hid hz
          clear hz
          go_wp2_with fail
          refine RJ.out.mono ?_
          rintro e w3 ⟨rfl, hb⟩
          have B3 := Lib.hid (R.out.2.2.trans (hb.mono R.out.2.2.size))
          clear hb
          go_wp2_with fail
          go_roundg (n - (j + 1))
          case measure => have := R.out.1; omega
          case rel => exact ⟨j + 1, by omega, rfl, by go_num, fun q hq => by
            rcases Nat.lt_or_ge q j with h | h
            · exact R.out.2.1 q h
            · obtain rfl : q = j := by omega
              exact HZ.out, B3.out⟩
      · have hge : decide ((j : Int) < (n : Int)) = false := decide_eq_false (by omega)
        have hr : Hid ((!invalidB ⟨key, how, .slice a n cap, ts⟩) = true) := Lib.hid (by
          rw [UV.out, VA.out]
          exact fun i hi => R.out.2.1 i (by have := HN.out; omega))
        go_wp2_with fail
        go_ret
        exact ⟨by rw [hr.out]; rfl, BR.out⟩
set_option maxHeartbeats 8000000 in
set_option maxRecDepth 100000 in
theorem refTerms_any (v : Value) (xs : List Trm) (w : World) (hv : Trms w v xs) :
    Calls Tryd.prog 42 #[v] w fun e w' => e = .returned (.bool (termsB xs)) ∧ Below w.heap.size w w' := by
  have V := Lib.hid hv
  obtain ⟨_, a, cap, rfl, hlc, hcm, _, _⟩ := hv
  unfold maxLen at hcm
  obtain ⟨n, hn⟩ : ∃ n, n = xs.length := ⟨_, rfl⟩
  rw [← hn] at hlc V ⊢
  have HN := Lib.hid hn
  clear hn
  go_enter Tryd.func42, Tryd.ntmps42
  go_wp2_with fail
  go_loopg [3] n (fun g sj wr => ∃ (j : Nat), j ≤ n ∧ g = n - j ∧ sj = .int .i64 j ∧ (xs.take j).any invalidB = false ∧ Below w.heap.size w wr)
  case atStart => exact ⟨0, Nat.zero_le _, rfl, rfl, rfl, Below.refl _ _⟩
  case round =>
    obtain ⟨j, hj, hg, rfl, hpr, hb⟩ := hrel
    have R : Aside (gk = n - j ∧ (xs.take j).any invalidB = false ∧ Below w.heap.size w wr) := ⟨hg, hpr, hb⟩
    clear hg hpr hb
    by_cases hlt : j < n
    · have hlt' : (j : Int) < (n : Int) := by omega
      obtain ⟨b, off, rfl, x, hx, ex, hat, c0, c1, c2⟩ := trms_at (V.out.below R.out.2.2) j (by rw [← HN.out]; exact hlt)
      have RT := Lib.hid (refTerm_any x wr hat)
      have EX := Lib.hid (And.intro ex hx)
      obtain ⟨av, cv, ev, _, _⟩ := hat.1.len
      obtain ⟨q, hq⟩ : ∃ q, q = x.ts.length := ⟨_, rfl⟩
      obtain ⟨key, hkey⟩ : ∃ key, key = x.key := ⟨_, rfl⟩
      obtain ⟨how, hhow⟩ : ∃ how, how = x.how := ⟨_, rfl⟩
      obtain ⟨z, hz⟩ : ∃ z, z = invalidB x := ⟨_, rfl⟩
      unfold Trm.cells at RT
      rw [← hq] at ev
      rw [← hz] at RT
      rw [ev] at c2 RT
      rw [← hkey] at c0 RT
      rw [← hhow] at c1 RT
      have HZ := Lib.hid hz
      clear ex hx hat ev hq hkey hhow hz
      cases z with
      | true =>
        have hr : Hid (termsB xs = false) := Lib.hid (by
          unfold termsB
          have : xs.any invalidB = true := by
            rw [List.any_eq_true]
            exact ⟨x, EX.out.2, HZ.out.symm⟩
          rw [this]
          simp)
        go_wp2_with fail
        refine RT.out.mono ?_
        rintro e w3 ⟨rfl, hb⟩
        have B3 := Lib.hid (R.out.2.2.trans (hb.mono R.out.2.2.size))
        clear hb
        go_wp2_with fail
        go_ret
        exact ⟨by rw [hr.out]; rfl, B3.out⟩
      | false =>
        go_wp2_with fail
        refine RT.out.mono ?_
        rintro e w3 ⟨rfl, hb⟩
        have B3 := Lib.hid (R.out.2.2.trans (hb.mono R.out.2.2.size))
        clear hb
        go_wp2_with fail
        go_roundg (n - (j + 1))
        case measure => have := R.out.1; omega
        case rel =>
          refine ⟨j + 1, by omega, rfl, by go_num, ?_, B3.out⟩
          rw [take_one xs j _ (by rw [← HN.out]; exact hlt), List.any_append, R.out.2.1, EX.out.1]
          simp [← HZ.out]
    · have hge : decide ((j : Int) < (n : Int)) = false := decide_eq_false (by omega)
      have hr : Hid (termsB xs = decide (n ≤ 8)) := Lib.hid (by
        have h := R.out.2.1
        rw [List.take_of_length_le (by rw [← HN.out]; omega)] at h
        unfold termsB
        rw [h, ← HN.out]
        simp)
      go_wp2_with fail
      go_ret
      refine ⟨?_, R.out.2.2⟩
      rw [hr.out]
      first
      | rfl
      | (congr 2; simp; omega)
end Go.Proofs.YthbbdhhkamccbaaDoor
