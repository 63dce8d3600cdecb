/-
  The document's value, term, terms.
-/
import Derived.Test.YthbbdhhkamccbaaDoorMatchB
import Derived.Test.YthbbdhhkamccbaaDoorRefName
namespace Go.Proofs.YthbbdhhkamccbaaDoor
open Go.RowKit Go.Sort
def eB : ByteArray := ⟨#[]⟩
def valAtB (ts : List ByteArray) (i : Nat) : Bool := !Lib.containsS (ts.take i) (ts.getD i eB) && (nameB (ts.getD i eB) || (decide ((ts.getD i eB).size = 0) && decide (ts.length = 1)))
theorem cont_false {ts : List ByteArray} {v : ByteArray} (h : ∀ j, j < ts.length → (ts.getD j eB).data.toList ≠ v.data.toList) : Lib.containsS ts v = false := by
  cases hc : Lib.containsS ts v with
  | false => rfl
  | true =>
    rw [Lib.containsS_iff] at hc
    obtain ⟨j, hj, e⟩ := List.getElem_of_mem hc
    exfalso
    refine h j hj ?_
    rw [List.getD_eq_getElem?_getD, List.getElem?_eq_getElem hj, ← e]
    rfl
theorem cont_true {ts : List ByteArray} {v : ByteArray} (j : Nat) (hj : j < ts.length) (h : (ts.getD j eB).data.toList = v.data.toList) : Lib.containsS ts v = true := by
  rw [Lib.containsS_iff]
  have e : ts.getD j eB = v := by rw [← bys_data (ts.getD j eB), h, bys_data]
  rw [← e, List.getD_eq_getElem?_getD, List.getElem?_eq_getElem hj]
  exact List.getElem_mem hj
theorem take_getD (ts : List ByteArray) (i j : Nat) (h : j < i) : (ts.take i).getD j eB = ts.getD j eB := by
  rw [List.getD_eq_getElem?_getD, List.getD_eq_getElem?_getD, List.getElem?_take_of_lt h]
theorem nodup_of (ts : List ByteArray) (h : ∀ i, i < ts.length → Lib.containsS (ts.take i) (ts.getD i eB) = false) : (ts.map (·.data.toList)).Nodup := by
  unfold List.Nodup
  rw [List.pairwise_iff_getElem]
  intro i j hi hj hij e
  rw [List.length_map] at hi hj
  have := h j hj
  rw [cont_true (ts := ts.take j) i (by rw [List.length_take]; omega) (by
    rw [take_getD ts j i hij, List.getD_eq_getElem?_getD, List.getElem?_eq_getElem hi, List.getD_eq_getElem?_getD, List.getElem?_eq_getElem hj]
    simpa using e)] at this
  cases this
theorem of_nodup (ts : List ByteArray) (h : (ts.map (·.data.toList)).Nodup) (i : Nat) (hi : i < ts.length) : Lib.containsS (ts.take i) (ts.getD i eB) = false := by
  refine cont_false fun j hj e => ?_
  rw [List.length_take] at hj
  have hji : j < i := by omega
  unfold List.Nodup at h
  rw [List.pairwise_iff_getElem] at h
  refine h j i (by rw [List.length_map]; omega) (by rw [List.length_map]; exact hi) hji ?_
  rw [take_getD ts i j hji, List.getD_eq_getElem?_getD, List.getElem?_eq_getElem (show j < ts.length by omega), List.getD_eq_getElem?_getD, List.getElem?_eq_getElem hi] at e
  simpa using e
theorem values_at {ts : List ByteArray} (h1 : 1 ≤ ts.length) (h8 : ts.length ≤ 8) : valuesB ts = true ↔ ∀ i, i < ts.length → valAtB ts i = true := by
  unfold valuesB valAtB
  by_cases one : ts.length = 1
  · rw [if_pos one]
    constructor
    · intro h i hi
      obtain rfl : i = 0 := by omega
      rw [List.take_zero, show Lib.containsS [] (ts.getD 0 eB) = false from rfl, decide_eq_true one, Bool.and_true]
      unfold valueB at h
      change (decide ((ts.getD 0 eB).size = 0) || nameB (ts.getD 0 eB)) = true at h
      rw [Bool.or_comm, h]; rfl
    · intro h
      have := h 0 (by omega)
      rw [List.take_zero, show Lib.containsS [] (ts.getD 0 eB) = false from rfl, decide_eq_true one, Bool.and_true] at this
      unfold valueB
      change (decide ((ts.getD 0 eB).size = 0) || nameB (ts.getD 0 eB)) = true
      rw [Bool.or_comm]
      simpa using this
  · rw [if_neg one, decide_eq_true (show 0 < ts.length by omega), decide_eq_true h8, decide_eq_false one]
    simp only [Bool.true_and, Bool.and_false, Bool.or_false, Bool.and_eq_true, decide_eq_true_eq, List.all_eq_true, Bool.not_eq_true']
    constructor
    · rintro ⟨hn, hd⟩ i hi
      refine ⟨of_nodup ts hd i hi, hn _ ?_⟩
      rw [List.getD_eq_getElem?_getD, List.getElem?_eq_getElem hi]
      exact List.getElem_mem hi
    · intro h
      refine ⟨fun t ht => ?_, nodup_of ts fun i hi => (h i hi).1⟩
      obtain ⟨i, hi, e⟩ := List.getElem_of_mem ht
      have := (h i hi).2
      rw [List.getD_eq_getElem?_getD, List.getElem?_eq_getElem hi] at this
      rw [← e]
      exact this
set_option maxHeartbeats 8000000 in
set_option maxRecDepth 100000 in
theorem refValue_any (x : Trm) (i : Nat) (w : World) (hx : x.At w) (hi : i < x.ts.length) :
    Calls Tryd.prog 73 #[.agg x.cells.toArray, .int .i64 i] w fun e w' => e = .returned (.bool (valAtB x.ts i)) ∧ Below w.heap.size w w' := by
  obtain ⟨key, how, vals, ts⟩ := x
  have X := Lib.hid hx
  obtain ⟨a, cap, hv, hlc, hcm⟩ := hx.1.len
  simp only at hv hi
  subst hv
  unfold maxLen at hcm
  unfold Trm.cells
  obtain ⟨n, hn⟩ : ∃ n, n = ts.length := ⟨_, rfl⟩
  rw [← hn] at hlc hi X ⊢
  have HN := Lib.hid hn
  obtain ⟨W1, hW1⟩ : ∃ W, W = w.alloc (.cells #[.string key, .int .i64 how, .slice a n cap] 41) := ⟨_, rfl⟩
  have c2 : W1.cell? ⟨w.heap.size, 2, none⟩ = some (.slice a n cap) := by rw [hW1, World.cell?_alloc_new]; rfl
  have B1 : Hid (Below w.heap.size w W1) := Lib.hid (by rw [hW1]; exact (Below.refl _ w).alloc (Nat.le_refl _) _)
  obtain ⟨b, off, rfl, pi⟩ := (X.out.1.below B1.out).at i (by simp only; rw [← HN.out]; exact hi)
  simp only at pi
  obtain ⟨v, hv⟩ : ∃ v, v = ts.getD i eB := ⟨_, rfl⟩
  have pi' : W1.cell? ⟨b, off + i, none⟩ = some (.string v) := by rw [hv]; exact pi
  have HV := Lib.hid hv
  have NV := Lib.hid (refName_any v)
  have hW' := hW1.symm
  clear hW1 hx hn pi hv
  go_enter Tryd.func73, Tryd.ntmps73
  go_wp2_with fail
  go_loopg [6] i (fun g sj wr => ∃ (j : Nat), j ≤ i ∧ g = i - j ∧ sj = .int .i64 j ∧ (∀ q, q < j → (ts.getD q eB).data.toList ≠ v.data.toList) ∧ wr = W1)
  case atStart => exact ⟨0, Nat.zero_le _, rfl, rfl, fun q hq => absurd hq (Nat.not_lt_zero _), rfl⟩
  case round =>
    obtain ⟨j, hj, hg, rfl, hpr, hwr⟩ := hrel
    subst hwr
    have R : Aside (gk = i - j ∧ ∀ q, q < j → (ts.getD q eB).data.toList ≠ v.data.toList) := ⟨hg, hpr⟩
    clear hg hpr
    by_cases hlt : j < i
    · have hlt' : (j : Int) < (i : Int) := by omega
      have hjn : j < n := by omega
      obtain ⟨_, _, ea, pj⟩ := (X.out.1.below B1.out).at j (by simp only; rw [← HN.out]; exact hjn)
      cases ea
      simp only at pj
      obtain ⟨u, hu⟩ : ∃ u, u = ts.getD j eB := ⟨_, rfl⟩
      have pj' : wr.cell? ⟨b, off + j, none⟩ = some (.string u) := by rw [hu]; exact pj
      have HU := Lib.hid hu
      clear pj hu
      by_cases e : u.data.toList = v.data.toList
      · have ge : (u.toList == v.toList) = true := by rw [list_of_bytes, list_of_bytes, e]; simp
        have hr : Hid (valAtB ts i = false) := Lib.hid (by
          unfold valAtB
          rw [← HV.out, cont_true (ts := ts.take i) j (by rw [List.length_take, ← HN.out]; omega) (by rw [take_getD ts i j hlt, ← HU.out]; exact e)]
          rfl)
        clear e
        go_wp2_with fail
        go_ret
        exact ⟨by rw [hr.out]; rfl, B1.out⟩
      · have ge : (u.toList == v.toList) = false := by rw [list_of_bytes, list_of_bytes, beq_eq_false_iff_ne]; exact e
        have E := Lib.hid e
        clear e
        go_wp2_with fail
        go_roundg (i - (j + 1))
        case measure => have := R.out.1; omega
        case rel => exact ⟨j + 1, by omega, rfl, by go_num, fun q hq => by
          rcases Nat.lt_or_ge q j with h | h
          · exact R.out.2 q h
          · obtain rfl : q = j := by omega
            rw [← HU.out]
            exact E.out, rfl⟩
    · have hge : decide ((j : Int) < (i : Int)) = false := decide_eq_false (by omega)
      have hr : Hid (valAtB ts i = (nameB v || (decide (v.size = 0) && decide (n = 1)))) := Lib.hid (by
        unfold valAtB
        rw [← HV.out, cont_false (ts := ts.take i) (v := v) (fun q hq => by
          rw [List.length_take] at hq
          rw [take_getD ts i q (by omega)]
          exact R.out.2 q (by omega)), ← HN.out]
        rfl)
      cases hN : nameB v with
      | true =>
        rw [hN] at NV hr
        go_wp2_with fail
        refine (NV.out _).mono ?_
        rintro e w2 ⟨rfl, rfl⟩
        go_wp2_with fail
        go_ret
        exact ⟨by rw [hr.out]; rfl, B1.out⟩
      | false =>
        rw [hN] at NV hr
        by_cases h0 : v.size = 0
        · have e0 : v.toList.isEmpty = true := by
            rw [list_of_bytes]
            have : v.data.toList = [] := List.length_eq_zero_iff.1 (by simpa using h0)
            rw [this]; rfl
          rw [decide_eq_true h0] at hr
          have gn : ((n : Int) == 1) = decide (n = 1) := by
            by_cases h : n = 1
            · rw [decide_eq_true h, beq_iff_eq]; omega
            · rw [decide_eq_false h, beq_eq_false_iff_ne]; omega
          obtain ⟨z, hz⟩ : ∃ z, z = decide (n = 1) := ⟨_, rfl⟩
          rw [← hz] at gn hr
          clear hz h0
          go_wp2_with fail
          refine (NV.out _).mono ?_
          rintro e w2 ⟨rfl, rfl⟩
          go_wp2_with fail
          go_ret
          exact ⟨by rw [hr.out]; rfl, B1.out⟩
        · have e0 : v.toList.isEmpty = false := by
            rw [list_of_bytes]
            cases h : v.data.toList with
            | nil => exact absurd (by have := congrArg List.length h; simpa using this) h0
            | cons x r => rfl
          rw [decide_eq_false h0] at hr
          clear h0
          go_wp2_with fail
          refine (NV.out _).mono ?_
          rintro e w2 ⟨rfl, rfl⟩
          go_wp2_with fail
          go_ret
          exact ⟨by rw [hr.out]; rfl, B1.out⟩
end Go.Proofs.YthbbdhhkamccbaaDoor
