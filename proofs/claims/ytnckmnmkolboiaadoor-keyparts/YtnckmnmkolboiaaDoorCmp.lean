/-
  same, Compare, ahead, length: of every two lists of texts.
-/
import Derived.Test.YtnckmnmkolboiaaDoorStrs
namespace Go.Proofs.YtnckmnmkolboiaaDoor
open Go.RowKit
theorem drop_at {α : Type} (l : List α) (k : Nat) (d : α) (h : k < l.length) : l.drop k = l.getD k d :: l.drop (k + 1) := by
  rw [List.getD_eq_getElem?_getD, List.getElem?_eq_getElem h]
  simp
theorem ahead_at (ts us : List ByteArray) (k : Nat) (h1 : k ≤ ts.length) (h2 : k ≤ us.length) (h : ts.take k = us.take k) : aheadB ts us = aheadB (ts.drop k) (us.drop k) := by
  induction k generalizing ts us with
  | zero => rfl
  | succ k ih =>
    cases ts with
    | nil => simp at h1
    | cons t r =>
      cases us with
      | nil => simp at h2
      | cons u q =>
        rw [List.take_succ_cons, List.take_succ_cons, List.cons.injEq] at h
        rw [aheadB, if_pos h.1, List.drop_succ_cons, List.drop_succ_cons]
        exact ih r q (by simpa using h1) (by simpa using h2) h.2
theorem eqB (t u : ByteArray) (h : t = u) : (t.toList == u.toList) = true := by rw [h]; simp
theorem neB (t u : ByteArray) (h : t ≠ u) : (t.toList == u.toList) = false := by
  rw [list_of_bytes, list_of_bytes, beq_eq_false_iff_ne]; exact data_ne h
theorem take_both {ts us : List ByteArray} {k : Nat} (h1 : k < ts.length) (h2 : k < us.length) (h : ts.take k = us.take k) (e : ts.getD k ⟨#[]⟩ = us.getD k ⟨#[]⟩) : ts.take (k + 1) = us.take (k + 1) := by
  rw [take_one ts k ⟨#[]⟩ h1, take_one us k ⟨#[]⟩ h2, h, e]
set_option maxHeartbeats 2000000 in
set_option maxRecDepth 100000 in
theorem same_any (v v' : Value) (ts us : List ByteArray) (w : World) (hv : Strs w v ts) (hv' : Strs w v' us) :
    Calls Tryd.prog 25 #[v, v'] w fun e w' => e = .returned (.bool (decide (ts = us))) ∧ Below w.heap.size w w' := by
  have V : Aside (Strs w v ts ∧ Strs w v' us) := ⟨hv, hv'⟩
  obtain ⟨a, cap, rfl, hlc, hcm⟩ := hv.len
  obtain ⟨a', cap', rfl, hlc', hcm'⟩ := hv'.len
  unfold maxLen at hcm hcm'
  clear hv hv'
  go_enter Tryd.func25, Tryd.ntmps25
  by_cases hl : ts.length = us.length
  · have hl' : ((ts.length : Int) == (us.length : Int)) = true := by rw [hl]; simp
    go_wp2_with fail
    go_loopg [5] ts.length (fun g si wr => ∃ (k : Nat), k ≤ ts.length ∧ g = ts.length - k ∧ si = .int .i64 k ∧ ts.take k = us.take k ∧ Below w.heap.size w wr)
    case atStart => exact ⟨0, Nat.zero_le _, rfl, rfl, rfl, Below.refl _ _⟩
    case round =>
      obtain ⟨k, hk, hg, rfl, hq, hb⟩ := hrel
      have R : Aside (gk = ts.length - k ∧ ts.take k = us.take k ∧ Below w.heap.size w wr) := ⟨hg, hq, hb⟩
      clear hg hb hq
      by_cases hlt : k < ts.length
      · obtain ⟨b, off, rfl, p0⟩ := (V.out.1.below R.out.2.2).at k hlt
        obtain ⟨b', off', rfl, q0⟩ := (V.out.2.below R.out.2.2).at k (by omega)
        obtain ⟨t, ht⟩ : ∃ t, t = ts.getD k ⟨#[]⟩ := ⟨_, rfl⟩
        obtain ⟨u, hu⟩ : ∃ t, t = us.getD k ⟨#[]⟩ := ⟨_, rfl⟩
        rw [← ht] at p0
        rw [← hu] at q0
        have C : Aside (t = ts.getD k ⟨#[]⟩ ∧ u = us.getD k ⟨#[]⟩) := ⟨ht, hu⟩
        clear ht hu
        have hlt' : (k : Int) < (ts.length : Int) := by omega
        have hlt2 : (k : Int) < (us.length : Int) := by omega
        by_cases e : t = u
        · have e1 := eqB t u e
          have E : Aside (t = u) := e
          clear e
          go_wp2_with fail
          go_quiet (fail)
          go_wp2_with fail
          go_roundg (ts.length - (k + 1))
          case measure => have := R.out.1; omega
          case rel => exact ⟨k + 1, by omega, rfl, by go_num, take_both hlt (by omega) R.out.2.1 (by rw [← C.out.1, ← C.out.2]; exact E.out), R.out.2.2.trans ⟨rfl, rfl, rfl, Nat.le_refl _, fun _ _ => rfl⟩⟩
        · have e1 := neB t u e
          have E : Aside (¬ t = u) := e
          clear e
          go_wp2_with fail
          go_quiet (fail)
          go_wp2_with fail
          go_ret
          refine ⟨?_, R.out.2.2.trans ⟨rfl, rfl, rfl, Nat.le_refl _, fun _ _ => rfl⟩⟩
          rw [decide_eq_false (fun h => E.out (by rw [C.out.1, C.out.2, h]))]
          rfl
      · go_wp2_with fail
        go_ret
        refine ⟨?_, R.out.2.2⟩
        have h := R.out.2.1
        rw [List.take_of_length_le (by omega), List.take_of_length_le (by omega)] at h
        rw [decide_eq_true h]
        rfl
  · have hl' : ((ts.length : Int) == (us.length : Int)) = false := by rw [beq_eq_false_iff_ne]; omega
    have hd : decide (ts = us) = false := decide_eq_false (fun h => hl (by rw [h]))
    rw [hd]
    clear hd
    go_wp2_with fail
    go_ret
    exact ⟨rfl, Below.refl _ _⟩
theorem nan_no (t : ByteArray) (w : World) : Calls Tryd.prog 51 #[.string t] w fun e w' => e = .returned (.bool false) ∧ w' = w := by
  have e := eqB t t rfl
  go_enter Tryd.func51, Tryd.ntmps51
  go_wp2_with fail
  go_ret
  exact ⟨rfl, rfl⟩
def cmpS (t u : ByteArray) : Int := if bl t.data.toList u.data.toList then -1 else if t = u then 0 else 1
set_option maxRecDepth 100000 in
theorem cmp_any (t u : ByteArray) (w : World) : Calls Tryd.prog 40 #[.string t, .string u] w fun e w' => e = .returned (.int .i64 (cmpS t u)) ∧ w' = w := by
  have NN := Lib.hid nan_no
  go_enter Tryd.func40, Tryd.ntmps40
  go_wp2_with fail
  refine (NN.out t w).mono ?_
  rintro e w1 ⟨rfl, rfl⟩
  go_wp2_with fail
  refine (NN.out u w1).mono ?_
  rintro e w1 ⟨rfl, rfl⟩
  cases h : bl t.data.toList u.data.toList with
  | true =>
    have g : Op.bytesLess t.toList u.toList = true := by rw [list_of_bytes, list_of_bytes]; exact h
    have hc : Hid (cmpS t u = -1) := Lib.hid (by unfold cmpS; rw [if_pos h])
    clear h
    go_wp2_with fail
    go_ret
    exact ⟨by rw [hc.out]; rfl, rfl⟩
  | false =>
    have g : Op.bytesLess t.toList u.toList = false := by rw [list_of_bytes, list_of_bytes]; exact h
    by_cases e : t = u
    · have e1 := eqB t u e
      have hc : Hid (cmpS t u = 0) := Lib.hid (by unfold cmpS; rw [if_neg (by rw [h]; simp), if_pos e])
      clear h e
      go_wp2_with fail
      go_ret
      exact ⟨by rw [hc.out]; rfl, rfl⟩
    · have e1 := neB t u e
      have hc : Hid (cmpS t u = 1) := Lib.hid (by unfold cmpS; rw [if_neg (by rw [h]; simp), if_neg e])
      clear h e
      go_wp2_with fail
      go_ret
      exact ⟨by rw [hc.out]; rfl, rfl⟩
/-- What Compare answers. -/
def cmpR (ts us : List ByteArray) : Int := if aheadB ts us then -1 else if ts = us then 0 else 1
theorem cmpR_one (ts us : List ByteArray) (h1 : aheadB ts us = false) (h2 : aheadB us ts = true) : cmpR ts us = 1 := by
  unfold cmpR
  rw [if_neg (by rw [h1]; simp), if_neg (fun h => by rw [h, ahead_refl] at h2; cases h2)]
theorem cmpR_same (ts : List ByteArray) : cmpR ts ts = 0 := by
  unfold cmpR
  rw [if_neg (by rw [ahead_refl]; simp), if_pos rfl]
set_option maxHeartbeats 2000000 in
set_option maxRecDepth 100000 in
theorem slicesCompare_any (v v' : Value) (ts us : List ByteArray) (w : World) (hv : Strs w v ts) (hv' : Strs w v' us) :
    Calls Tryd.prog 32 #[v, v'] w fun e w' => e = .returned (.int .i64 (cmpR ts us)) ∧ Below w.heap.size w w' := by
  have V : Aside (Strs w v ts ∧ Strs w v' us) := ⟨hv, hv'⟩
  obtain ⟨a, cap, rfl, hlc, hcm⟩ := hv.len
  obtain ⟨a', cap', rfl, hlc', hcm'⟩ := hv'.len
  unfold maxLen at hcm hcm'
  clear hv hv'
  have CA := Lib.hid cmp_any
  go_enter Tryd.func32, Tryd.ntmps32
  go_wp2_with fail
  go_loopg [11] ts.length (fun g si wr => ∃ (k : Nat), k ≤ ts.length ∧ k ≤ us.length ∧ g = ts.length - k ∧ si = .int .i64 k ∧ ts.take k = us.take k ∧ Below w.heap.size w wr)
  case atStart => exact ⟨0, Nat.zero_le _, Nat.zero_le _, rfl, rfl, rfl, Below.refl _ _⟩
  case round =>
    obtain ⟨k, hk, hk2, hg, rfl, hq, hb⟩ := hrel
    have R : Aside (gk = ts.length - k ∧ ts.take k = us.take k ∧ Below w.heap.size w wr) := ⟨hg, hq, hb⟩
    clear hg hb hq
    by_cases hlt : k < ts.length
    · obtain ⟨b, off, rfl, p0⟩ := (V.out.1.below R.out.2.2).at k hlt
      have hlt' : (k : Int) < (ts.length : Int) := by omega
      by_cases hlu : k < us.length
      · obtain ⟨b', off', rfl, q0⟩ := (V.out.2.below R.out.2.2).at k hlu
        obtain ⟨t, ht⟩ : ∃ t, t = ts.getD k ⟨#[]⟩ := ⟨_, rfl⟩
        obtain ⟨u, hu⟩ : ∃ t, t = us.getD k ⟨#[]⟩ := ⟨_, rfl⟩
        rw [← ht] at p0
        rw [← hu] at q0
        have C : Aside (t = ts.getD k ⟨#[]⟩ ∧ u = us.getD k ⟨#[]⟩) := ⟨ht, hu⟩
        clear ht hu
        have hlt2 : (k : Int) < (us.length : Int) := by omega
        have A1 : Aside (aheadB ts us = (if t = u then aheadB (ts.drop (k + 1)) (us.drop (k + 1)) else bl t.data.toList u.data.toList) ∧ aheadB us ts = (if u = t then aheadB (us.drop (k + 1)) (ts.drop (k + 1)) else bl u.data.toList t.data.toList)) := by
          constructor
          · rw [ahead_at ts us k hk hk2 R.out.2.1, drop_at ts k ⟨#[]⟩ hlt, drop_at us k ⟨#[]⟩ hlu, ← C.out.1, ← C.out.2, aheadB]
          · rw [ahead_at us ts k hk2 hk R.out.2.1.symm, drop_at ts k ⟨#[]⟩ hlt, drop_at us k ⟨#[]⟩ hlu, ← C.out.1, ← C.out.2, aheadB]
        go_wp2_with fail
        refine (CA.out t u wr).mono ?_
        rintro e w1 ⟨rfl, rfl⟩
        by_cases e : t = u
        · have hc : cmpS t u = 0 := by unfold cmpS; rw [if_neg (by rw [e, bl_refl]; simp), if_pos e]
          rw [hc]
          clear hc
          have E : Aside (t = u) := e
          clear e
          go_wp2_with fail
          go_roundg (ts.length - (k + 1))
          case measure => have := R.out.1; omega
          case rel => exact ⟨k + 1, by omega, by omega, rfl, by go_num, take_both hlt hlu R.out.2.1 (by rw [← C.out.1, ← C.out.2]; exact E.out), R.out.2.2⟩
        · cases g : bl t.data.toList u.data.toList with
          | true =>
            have hc : cmpS t u = -1 := by unfold cmpS; rw [if_pos g]
            have hr : Hid (cmpR ts us = -1) := Lib.hid (by unfold cmpR; rw [A1.out.1, if_neg e, if_pos g])
            rw [hc]
            clear hc
            go_wp2_with fail
            go_ret
            exact ⟨by rw [hr.out]; rfl, R.out.2.2⟩
          | false =>
            have hc : cmpS t u = 1 := by unfold cmpS; rw [if_neg (by rw [g]; simp), if_neg e]
            have hr : Hid (cmpR ts us = 1) := Lib.hid (by
              refine cmpR_one ts us (by rw [A1.out.1, if_neg e, g]) ?_
              rw [A1.out.2, if_neg (fun h => e h.symm)]
              cases g2 : bl u.data.toList t.data.toList with
              | true => rfl
              | false => exact absurd (bl_total _ _ g g2) (data_ne e))
            rw [hc]
            clear hc
            go_wp2_with fail
            go_ret
            exact ⟨by rw [hr.out]; rfl, R.out.2.2⟩
      · have hr : Hid (cmpR ts us = 1) := Lib.hid (by
          have hu : us.drop k = [] := List.drop_eq_nil_of_le (by omega)
          refine cmpR_one ts us ?_ ?_
          · rw [ahead_at ts us k hk hk2 R.out.2.1, hu, drop_at ts k ⟨#[]⟩ hlt]; rfl
          · rw [ahead_at us ts k hk2 hk R.out.2.1.symm, hu, drop_at ts k ⟨#[]⟩ hlt]; rfl)
        go_wp2_with fail
        go_ret
        exact ⟨by rw [hr.out]; rfl, R.out.2.2⟩
    · have ek : k = ts.length := by omega
      have hd : ts.drop k = [] := List.drop_eq_nil_of_le (by omega)
      by_cases hlu : ts.length < us.length
      · have hr : Hid (cmpR ts us = -1) := Lib.hid (by
          unfold cmpR
          rw [ahead_at ts us k hk hk2 R.out.2.1, hd, drop_at us k ⟨#[]⟩ (by omega)]; rfl)
        have hlu' : (ts.length : Int) < (us.length : Int) := by omega
        clear hd
        go_wp2_with fail
        go_ret
        exact ⟨by rw [hr.out]; rfl, R.out.2.2⟩
      · have hr : Hid (cmpR ts us = 0) := Lib.hid (by
          have h := R.out.2.1
          rw [List.take_of_length_le (by omega), List.take_of_length_le (by omega)] at h
          rw [h]
          exact cmpR_same us)
        clear hd
        go_wp2_with fail
        go_ret
        exact ⟨by rw [hr.out]; rfl, R.out.2.2⟩
set_option maxRecDepth 100000 in
theorem compare_any (v v' : Value) (ts us : List ByteArray) (w : World) (hv : Strs w v ts) (hv' : Strs w v' us) :
    Calls Tryd.prog 21 #[v, v'] w fun e w' => e = .returned (.int .i64 (cmpR ts us)) ∧ Below w.heap.size w w' := by
  have SC := Lib.hid (slicesCompare_any v v' ts us w hv hv')
  go_enter Tryd.func21, Tryd.ntmps21
  go_wp2_with fail
  refine SC.out.mono ?_
  rintro e w1 ⟨rfl, hb⟩
  have B := Lib.hid hb
  clear hb
  go_wp2_with fail
  go_ret
  exact ⟨rfl, B.out⟩
end Go.Proofs.YtnckmnmkolboiaaDoor
