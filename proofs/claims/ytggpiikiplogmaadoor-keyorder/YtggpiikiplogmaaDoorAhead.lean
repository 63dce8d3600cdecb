/-
  ahead and length: the law's own words.
-/
import Derived.Test.YtggpiikiplogmaaDoorCmp
namespace Go.Proofs.YtggpiikiplogmaaDoor
open Go.RowKit
set_option maxHeartbeats 4000000 in
set_option maxRecDepth 100000 in
theorem ahead_any (v v' : Value) (ts us : List ByteArray) (w : World) (hv : Strs w v ts) (hv' : Strs w v' us) :
    Calls Tryd.prog 18 #[v, v'] w fun e w' => e = .returned (.bool (aheadB ts us)) ∧ Below w.heap.size w w' := by
  have V : Aside (Strs w v ts ∧ Strs w v' us) := ⟨hv, hv'⟩
  obtain ⟨a, cap, rfl, hlc, hcm⟩ := hv.len
  obtain ⟨a', cap', rfl, hlc', hcm'⟩ := hv'.len
  unfold maxLen at hcm hcm'
  clear hv hv'
  go_enter Tryd.func18, Tryd.ntmps18
  go_wp2_with fail
  go_loopg [5] ts.length (fun g si wr => ∃ (k : Nat), k ≤ ts.length ∧ k ≤ us.length ∧ g = ts.length - k ∧ si = .int .i64 k ∧ ts.take k = us.take k ∧ Below w.heap.size w wr)
  case atStart => exact ⟨0, Nat.zero_le _, Nat.zero_le _, rfl, rfl, rfl, Below.refl _ _⟩
  case round =>
    obtain ⟨k, hk, hk2, hg, rfl, hq, hb⟩ := hrel
    have R : Aside (gk = ts.length - k ∧ ts.take k = us.take k ∧ Below w.heap.size w wr) := ⟨hg, hq, hb⟩
    clear hg hb hq
    by_cases hlt : k < ts.length
    · have hlt' : (k : Int) < (ts.length : Int) := by omega
      have g1 : decide ((k : Int) < (ts.length : Int)) = true := decide_eq_true hlt'
      have n1 : ((k : Int) == (ts.length : Int)) = false := by rw [beq_eq_false_iff_ne]; omega
      by_cases hlu : k < us.length
      · obtain ⟨b, off, rfl, p0⟩ := (V.out.1.below R.out.2.2).at k hlt
        obtain ⟨b', off', rfl, q0⟩ := (V.out.2.below R.out.2.2).at k hlu
        obtain ⟨t, ht⟩ : ∃ t, t = ts.getD k ⟨#[]⟩ := ⟨_, rfl⟩
        obtain ⟨u, hu⟩ : ∃ t, t = us.getD k ⟨#[]⟩ := ⟨_, rfl⟩
        rw [← ht] at p0
        rw [← hu] at q0
        have C : Aside (t = ts.getD k ⟨#[]⟩ ∧ u = us.getD k ⟨#[]⟩) := ⟨ht, hu⟩
        clear ht hu
        have hlt2 : (k : Int) < (us.length : Int) := by omega
        have g2 : decide ((k : Int) < (us.length : Int)) = true := decide_eq_true hlt2
        have n2 : ((k : Int) == (us.length : Int)) = false := by rw [beq_eq_false_iff_ne]; omega
        have A1 : Aside (aheadB ts us = (if t = u then aheadB (ts.drop (k + 1)) (us.drop (k + 1)) else bl t.data.toList u.data.toList)) := by
          show aheadB ts us = _
          rw [ahead_at ts us k hk hk2 R.out.2.1, drop_at ts k ⟨#[]⟩ hlt, drop_at us k ⟨#[]⟩ hlu, ← C.out.1, ← C.out.2, aheadB]
        by_cases e : t = u
        · have e1 := eqB t u e
          have E : Aside (t = u) := e
          clear e
          go_wp2_with fail
          go_quiet (fail)
          go_wp2_with fail
          go_roundg (ts.length - (k + 1))
          case measure => have := R.out.1; omega
          case rel => exact ⟨k + 1, by omega, by omega, rfl, by go_num, take_both hlt hlu R.out.2.1 (by rw [← C.out.1, ← C.out.2]; exact E.out), R.out.2.2.trans ⟨rfl, rfl, rfl, Nat.le_refl _, fun _ _ => rfl⟩⟩
        · have e1 := neB t u e
          have hr : Hid (aheadB ts us = Op.bytesLess t.toList u.toList) := Lib.hid (by rw [A1.out, if_neg e, list_of_bytes, list_of_bytes])
          clear e
          go_wp2_with fail
          go_quiet (fail)
          go_wp2_with fail
          go_quiet (fail)
          go_wp2_with fail
          go_ret
          exact ⟨by rw [hr.out]; rfl, R.out.2.2.trans ⟨rfl, rfl, rfl, Nat.le_refl _, fun _ _ => rfl⟩⟩
      · have ek : k = us.length := by omega
        have g2 : decide ((k : Int) < (us.length : Int)) = false := decide_eq_false (by omega)
        have n2 : ((k : Int) == (us.length : Int)) = true := by rw [ek]; simp
        have hr : Hid (aheadB ts us = false) := Lib.hid (by
          have hu : us.drop k = [] := List.drop_eq_nil_of_le (by omega)
          rw [ahead_at ts us k hk hk2 R.out.2.1, hu, drop_at ts k ⟨#[]⟩ hlt]; rfl)
        clear ek
        go_wp2_with fail
        go_quiet (fail)
        go_wp2_with fail
        go_ret
        exact ⟨by rw [hr.out]; rfl, R.out.2.2.trans ⟨rfl, rfl, rfl, Nat.le_refl _, fun _ _ => rfl⟩⟩
    · have ek : k = ts.length := by omega
      have g1 : decide ((k : Int) < (ts.length : Int)) = false := decide_eq_false (by omega)
      have n1 : ((k : Int) == (ts.length : Int)) = true := by rw [ek]; simp
      have hd : ts.drop k = [] := List.drop_eq_nil_of_le (by omega)
      by_cases hlu : k < us.length
      · have g2 : decide ((k : Int) < (us.length : Int)) = true := decide_eq_true (by omega)
        have hr : Hid (aheadB ts us = true) := Lib.hid (by
          rw [ahead_at ts us k hk hk2 R.out.2.1, hd, drop_at us k ⟨#[]⟩ (by omega)]; rfl)
        clear hd ek
        go_wp2_with fail
        go_quiet (fail)
        go_wp2_with fail
        go_ret
        exact ⟨by rw [hr.out]; rfl, R.out.2.2.trans ⟨rfl, rfl, rfl, Nat.le_refl _, fun _ _ => rfl⟩⟩
      · have g2 : decide ((k : Int) < (us.length : Int)) = false := decide_eq_false (by omega)
        have hr : Hid (aheadB ts us = false) := Lib.hid (by
          have hu : us.drop k = [] := List.drop_eq_nil_of_le (by omega)
          rw [ahead_at ts us k hk hk2 R.out.2.1, hd, hu]; rfl)
        clear hd ek
        go_wp2_with fail
        go_quiet (fail)
        go_wp2_with fail
        go_ret
        exact ⟨by rw [hr.out]; rfl, R.out.2.2.trans ⟨rfl, rfl, rfl, Nat.le_refl _, fun _ _ => rfl⟩⟩
end Go.Proofs.YtggpiikiplogmaaDoor
