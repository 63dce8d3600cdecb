/-
  THE WALK of KeyCompares.
-/
import Derived.Test.YtggpiikiplogmabDoorRangeA
import Derived.Test.YtggpiikiplogmabDoorRefCmp
import Derived.Lib.QuietBelow
namespace Go.Proofs.YtggpiikiplogmabDoor
open Go.RowKit Go.Sort
theorem cmp_anti (ts us : List ByteArray) : (cmpR ts us = -1 ∧ cmpR us ts = 1) ∨ (cmpR ts us = 0 ∧ cmpR us ts = 0) ∨ (cmpR ts us = 1 ∧ cmpR us ts = -1) := by
  cases h1 : aheadB ts us with
  | true =>
    left
    have h2 : aheadB us ts = false := by rw [← key_order] at h1 ⊢; exact bl_asymm _ _ h1
    exact ⟨by unfold cmpR; rw [if_pos h1], cmpR_one _ _ h2 h1⟩
  | false =>
    right
    cases h2 : aheadB us ts with
    | true => exact .inr ⟨cmpR_one _ _ h1 h2, by unfold cmpR; rw [if_pos h2]⟩
    | false =>
      have := ahead_total _ _ h1 h2
      subst this
      exact .inl ⟨cmpR_same _, cmpR_same _⟩
theorem strs_front {w : World} {a : Option Addr} {n cap : Nat} {ts ms : List ByteArray} (H : Strs w (.slice a n cap) (ts ++ ms)) : Strs w (.slice a ts.length cap) ts := by
  have := H.take ts.length (by simp)
  rw [List.take_left] at this
  exact this
set_option maxHeartbeats 8000000 in
set_option maxRecDepth 100000 in
theorem compares_road (va vb : Value) (ts us : List ByteArray) (c d : Int) (w : World) (hm : HasM w) (ha : Strs w va ts) (hb : Strs w vb us) (la : ts.length ≤ 8796093021952) (lb : us.length ≤ 8796093021952) (hcd : (c = -1 ∧ d = 1) ∨ (c = 0 ∧ d = 0) ∨ (c = 1 ∧ d = -1))
    (C1 : cmpR ts us = c) (C2 : cmpR us ts = d) :
    Calls Tryd.prog 4 #[va, vb] w fun e w' => e = .returned (.bool true) ∧ Below w.heap.size w w' := by
  have V : Hid (Strs w va ts ∧ Strs w vb us) := ⟨ha, hb⟩
  have FX := Lib.hid (fixed_ok w hm)
  have RM : Hid (∀ v l W, Strs W v l → l.length ≤ 8796093021952 → Calls Tryd.prog 12 #[v] W fun e w' => ∃ v', e = .returned v' ∧ OwnS W.heap.size w' v' (l ++ [markT, markT]) ∧ Below W.heap.size W w') := Lib.hid fun v l W h hl => roomy_any v l W h hl
  have OW : Hid (∀ v l W, Strs W v l → l.length ≤ 8796093021952 → Calls Tryd.prog 9 #[v] W fun e w' => ∃ v', e = .returned v' ∧ OwnS W.heap.size w' v' l ∧ Below W.heap.size W w') := Lib.hid fun v l W h hl => own_any v l W h hl
  have K1 : Hid (∀ v v' W, Strs W v ts → Strs W v' us → Calls Tryd.prog 13 #[v, v'] W fun e w' => e = .returned (.int .i64 c) ∧ Below W.heap.size W w') := Lib.hid fun v v' W h h' => by rw [← C1]; exact compare_any v v' ts us W h h'
  have K2 : Hid (∀ v v' W, Strs W v us → Strs W v' ts → Calls Tryd.prog 13 #[v, v'] W fun e w' => e = .returned (.int .i64 d) ∧ Below W.heap.size W w') := Lib.hid fun v v' W h h' => by rw [← C2]; exact compare_any v v' us ts W h h'
  have K3 : Hid (∀ v v' W, Strs W v ts → Strs W v' us → Calls Tryd.prog 14 #[v, v'] W fun e w' => e = .returned (.int .i64 c) ∧ Below W.heap.size W w') := Lib.hid fun v v' W h h' => by rw [← C1]; exact refCompare_any v v' ts us W h h'
  have IY : Hid (∀ v v' l W, Strs W v (l ++ [markT, markT]) → Strs W v' l → l.length ≤ 8796093021952 → Calls Tryd.prog 15 #[v, v'] W fun e w' => e = .returned (.bool true) ∧ Below W.heap.size W w') := Lib.hid fun v v' l W h h' hl => intact_yes v v' l W h h' hl
  obtain ⟨aa, ca, rfl, hca, hma⟩ := ha.len
  obtain ⟨ab, cb, rfl, hcb, hmb⟩ := hb.len
  unfold maxLen at hma hmb
  clear ha hb hm C1 C2
  go_enter Tryd.func4, Tryd.ntmps4
  go_wp2_with fail
  refine FX.out.mono ?_
  rintro r w1 ⟨rfl, hb⟩
  have B1 := Lib.hid hb
  clear hb FX
  go_wp2_with fail
  refine (RM.out _ ts w1 (V.out.1.below B1.out) la).mono ?_
  rintro r w2 ⟨x, rfl, o2, hb⟩
  have B2 := Lib.hid (B1.out.trans (hb.mono B1.out.size))
  have X2 := Lib.hid o2.strs
  clear hb o2 B1
  go_wp2_with fail
  refine (RM.out _ us w2 (V.out.2.below B2.out) lb).mono ?_
  rintro r w3 ⟨y, rfl, o3, hb⟩
  have B3 := Lib.hid (B2.out.trans (hb.mono B2.out.size))
  have X3 := Lib.hid (And.intro (X2.out.below hb) o3.strs)
  clear hb o3 B2 X2
  obtain ⟨ax, cx, ex, hcx, hmx⟩ := X3.out.1.len
  obtain ⟨ay, cy, ey, hcy, hmy⟩ := X3.out.2.len
  subst ex ey
  rw [List.length_append] at hcx hcy
  simp only [List.length_cons, List.length_nil] at hcx hcy
  unfold maxLen at hmx hmy
  have lx : (ts ++ [markT, markT]).length = ts.length + 2 := by simp
  have ly : (us ++ [markT, markT]).length = us.length + 2 := by simp
  have hX : Hid (Strs w3 (.slice ax (ts.length + 2) cx) (ts ++ [markT, markT]) ∧ Strs w3 (.slice ay (us.length + 2) cy) (us ++ [markT, markT])) := by rw [← lx, ← ly]; exact X3
  rw [lx, ly]
  clear X3 lx ly
  have xB : Hid (∀ (dq : Nat) (os : Array Obj), Below w3.heap.size w3 (grow (redrawn w3 dq) os)) := fun dq os => below_regrown w3 dq os
  have xQ : Hid (∀ (dq : Nat) (os : Array Obj), Calls Tryd.prog 13 #[.slice ax ts.length cx, .slice ay us.length cy] (grow (redrawn w3 dq) os) fun e w'' => e = .returned (.int .i64 c) ∧ ∃ p : Regrown, w'' = grow (redrawn w3 p.d) p.os) := fun dq os =>
    Calls.regrown_of (K1.out _ _ _ ((strs_front hX.out.1).below (xB.out dq os)) ((strs_front hX.out.2).below (xB.out dq os)))
  go_wp2_with fail
  refine wp_region_quiet_below (by kernel_rfl) (by kernel_rfl) ?_
  repeat (go_big_quiet_step (exact xQ.out _ _))
  refine wpQuiet_nil ?_
  intro _ hw'
  obtain ⟨⟨dq, osq⟩, hw''⟩ := hw'
  subst hw''
  have B4 := Lib.hid (B3.out.trans ((xB.out dq osq).mono B3.out.size))
  have X4 := Lib.hid (And.intro (hX.out.1.below (xB.out dq osq)) (hX.out.2.below (xB.out dq osq)))
  obtain ⟨w4, hw4⟩ : ∃ W, W = grow (redrawn w3 dq) osq := ⟨_, rfl⟩
  rw [← hw4] at B4 X4 ⊢
  clear hw4 xQ xB hX B3
  have xB : Hid (∀ (dq : Nat) (os : Array Obj), Below w4.heap.size w4 (grow (redrawn w4 dq) os)) := fun dq os => below_regrown w4 dq os
  have xQ : Hid (∀ (dq : Nat) (os : Array Obj), Calls Tryd.prog 13 #[.slice ay us.length cy, .slice ax ts.length cx] (grow (redrawn w4 dq) os) fun e w'' => e = .returned (.int .i64 d) ∧ ∃ p : Regrown, w'' = grow (redrawn w4 p.d) p.os) := fun dq os =>
    Calls.regrown_of (K2.out _ _ _ ((strs_front X4.out.2).below (xB.out dq os)) ((strs_front X4.out.1).below (xB.out dq os)))
  go_wp2_with fail
  refine wp_region_quiet_below (by kernel_rfl) (by kernel_rfl) ?_
  repeat (go_big_quiet_step (exact xQ.out _ _))
  refine wpQuiet_nil ?_
  intro _ hw'
  obtain ⟨⟨dq2, osq2⟩, hw''⟩ := hw'
  subst hw''
  have B5 := Lib.hid (B4.out.trans ((xB.out dq2 osq2).mono B4.out.size))
  have X5 := Lib.hid (And.intro (X4.out.1.below (xB.out dq2 osq2)) (X4.out.2.below (xB.out dq2 osq2)))
  obtain ⟨w5, hw5⟩ : ∃ W, W = grow (redrawn w4 dq2) osq2 := ⟨_, rfl⟩
  rw [← hw5] at B5 X5 ⊢
  clear hw5 xQ xB X4 B4
  go_wp2_with fail
  refine (OW.out _ ts w5 (V.out.1.below B5.out) la).mono ?_
  rintro r w6 ⟨v6, rfl, o6, hb⟩
  have B6 := Lib.hid (B5.out.trans (hb.mono B5.out.size))
  have X6 := Lib.hid (And.intro (X5.out.1.below hb) (X5.out.2.below hb))
  have S6 := Lib.hid o6.strs
  clear hb o6 B5 X5
  go_wp2_with fail
  refine (OW.out _ us w6 (V.out.2.below B6.out) lb).mono ?_
  rintro r w7 ⟨v7, rfl, o7, hb⟩
  have B7 := Lib.hid (B6.out.trans (hb.mono B6.out.size))
  have X7 := Lib.hid (And.intro (X6.out.1.below hb) (X6.out.2.below hb))
  have S7 := Lib.hid (And.intro (S6.out.below hb) o7.strs)
  clear hb o7 B6 X6 S6
  go_wp2_with fail
  refine (K3.out v6 v7 w7 S7.out.1 S7.out.2).mono ?_
  rintro r w8 ⟨rfl, hb⟩
  have B8 := Lib.hid (B7.out.trans (hb.mono B7.out.size))
  have X8 := Lib.hid (And.intro (X7.out.1.below hb) (X7.out.2.below hb))
  clear hb B7 X7 S7
  rcases hcd with ⟨rfl, rfl⟩ | ⟨rfl, rfl⟩ | ⟨rfl, rfl⟩
  all_goals
    go_wp2_with fail
    refine (IY.out _ _ ts w8 X8.out.1 (V.out.1.below B8.out) la).mono ?_
    rintro r w9 ⟨rfl, hb⟩
    have B9 := Lib.hid (B8.out.trans (hb.mono B8.out.size))
    have X9 := Lib.hid (X8.out.2.below hb)
    clear hb B8 X8
    go_wp2_with fail
    refine (IY.out _ _ us w9 X9.out (V.out.2.below B9.out) lb).mono ?_
    rintro r w10 ⟨rfl, hb⟩
    have B10 := Lib.hid (B9.out.trans (hb.mono B9.out.size))
    clear hb B9 X9
    go_wp2_with fail
    go_ret
    exact ⟨rfl, B10.out⟩
theorem keyCompares_walk (va : Value) (ts : List ByteArray) (vb : Value) (us : List ByteArray) (w : World) (hm : HasM w) (ha : Strs w va ts) (sa : (∀ t ∈ ts, t.size ≤ 140737488355328) ∧ ts.length ≤ 8796093021952) (hb : Strs w vb us) (sb : (∀ t ∈ us, t.size ≤ 140737488355328) ∧ us.length ≤ 8796093021952) :
    Calls Tryd.prog 4 #[va, vb] w fun e w' => e = .returned (.bool true) ∧ Below w.heap.size w w' :=
  compares_road va vb ts us _ _ w hm ha hb sa.2 sb.2 (cmp_anti ts us) rfl rfl
end Go.Proofs.YtggpiikiplogmabDoor
