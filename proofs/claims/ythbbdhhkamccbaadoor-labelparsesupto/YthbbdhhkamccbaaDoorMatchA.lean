/-
  holds, Match: of every terms and labels.
-/
import Derived.Test.YthbbdhhkamccbaaDoorLbl
namespace Go.Proofs.YthbbdhhkamccbaaDoor
open Go.RowKit Go.Sort Go.Maps
theorem ltS_eq (a b : ByteArray) : ltS a b = decide (a.data.toList < b.data.toList) := by
  unfold ltS
  rw [list_of_bytes, list_of_bytes]
  exact bytesLess_eq _ _
def dL : Lbl := (⟨#[]⟩, ⟨#[]⟩)
theorem up_far {ls : List Lbl} (h : upB ls = true) (i j : Nat) (hij : i < j) (hj : j < ls.length) : ltS (ls.getD i dL).1 (ls.getD j dL).1 = true := by
  induction j with
  | zero => omega
  | succ j ih =>
    unfold upB at h
    rw [List.all_eq_true] at h
    have hs := h (j + 1) (List.mem_range.2 hj)
    rw [decide_eq_false (by omega), Bool.false_or, Nat.add_sub_cancel] at hs
    change ltS (ls.getD j dL).1 (ls.getD (j + 1) dL).1 = true at hs
    rcases Nat.lt_or_ge i j with h1 | h1
    · have h2 := ih h1 (by omega)
      rw [ltS_eq, decide_eq_true_eq] at *
      exact List.lt_trans h2 hs
    · obtain rfl : i = j := by omega
      exact hs
theorem keys_apart {ls : List Lbl} (h : lblsB ls = true) {i j : Nat} (hi : i < ls.length) (hj : j < ls.length) (e : (ls.getD i dL).1.data.toList = (ls.getD j dL).1.data.toList) : i = j := by
  unfold lblsB at h
  simp only [Bool.and_eq_true] at h
  rcases Nat.lt_trichotomy i j with h1 | h1 | h1
  · have := up_far h.2.2 i j h1 hj
    rw [ltS_eq, e, decide_eq_true_eq] at this
    exact absurd this (List.lt_irrefl _)
  · exact h1
  · have := up_far h.2.2 j i h1 hi
    rw [ltS_eq, e, decide_eq_true_eq] at this
    exact absurd this (List.lt_irrefl _)
/-- The value of the first label with a key. -/
def valOf : List Lbl → List UInt8 → Option ByteArray
  | [], _ => none
  | x :: r, key => if x.1.data.toList = key then some x.2 else valOf r key
theorem valOf_none {ls : List Lbl} {key : List UInt8} (h : ∀ x ∈ ls, x.1.data.toList ≠ key) : valOf ls key = none := by
  induction ls with
  | nil => rfl
  | cons x r ih => rw [valOf, if_neg (h x (by simp)), ih fun y hy => h y (by simp [hy])]
theorem valOf_first {ls : List Lbl} {key : List UInt8} (k : Nat) (hk : k < ls.length) (e : (ls.getD k dL).1.data.toList = key) (h : ∀ j, j < k → (ls.getD j dL).1.data.toList ≠ key) : valOf ls key = some (ls.getD k dL).2 := by
  induction ls generalizing k with
  | nil => simp at hk
  | cons x r ih =>
    cases k with
    | zero =>
      have e' : x.1.data.toList = key := e
      rw [valOf, if_pos e']
      rfl
    | succ k =>
      have h0 : x.1.data.toList ≠ key := h 0 (by omega)
      rw [valOf, if_neg h0]
      exact ih k (by simpa using hk) e fun j hj => h (j + 1) (by omega)
theorem mem_get {ls : List Lbl} {x : Lbl} (h : x ∈ ls) : ∃ k, k < ls.length ∧ ls.getD k dL = x := by
  obtain ⟨k, hk, e⟩ := List.getElem_of_mem h
  exact ⟨k, hk, by rw [List.getD_eq_getElem?_getD, List.getElem?_eq_getElem hk]; exact e⟩
/-- The map of the places of the first k labels. -/
def Places (D : DataW Unit) (ls : List Lbl) (k : Nat) : Prop :=
  IsMap D ∧ ∀ l : List UInt8, (Maps.has D (.string l) = true → ∃ i, i < k ∧ (ls.getD i dL).1.data.toList = l ∧ D.atKey (.string l) (.lit (.int .i64 0)) = .lit (.int .i64 i)) ∧ (Maps.has D (.string l) = false → ∀ i, i < k → (ls.getD i dL).1.data.toList ≠ l)
theorem places_none (ls : List Lbl) : Places (.map []) ls 0 := ⟨⟨[], rfl⟩, fun l => ⟨fun h => by simp [Maps.has_eq] at h, fun _ i hi => absurd hi (Nat.not_lt_zero _)⟩⟩
theorem Places.put {D : DataW Unit} {ls : List Lbl} {k : Nat} (h : Places D ls k) : Places (D.put (.string (ls.getD k dL).1.data.toList) (.lit (.int .i64 (k : Int)))) ls (k + 1) := by
  refine ⟨h.1.put _ _, fun l => ?_⟩
  by_cases e : l = (ls.getD k dL).1.data.toList
  · subst e
    refine ⟨fun _ => ⟨k, by omega, rfl, atKey_put_same h.1 (isKeyS _) _ _⟩, fun hh => ?_⟩
    rw [has_put_same h.1 (isKeyS _)] at hh
    cases hh
  · rw [has_put_other (fun h => e (by injection h)), atKey_put_other (fun h => e (by injection h))]
    refine ⟨fun hh => ?_, fun hh i hi => ?_⟩
    · obtain ⟨i, hi, h1, h2⟩ := (h.2 l).1 hh
      exact ⟨i, by omega, h1, h2⟩
    · rcases Nat.lt_or_ge i k with h1 | h1
      · exact (h.2 l).2 hh i h1
      · obtain rfl : i = k := by omega
        exact fun e2 => e e2.symm
def namedB (x : Trm) (ls : List Lbl) : Bool := match valOf ls x.key.data.toList with
  | some v => Lib.containsS x.ts v
  | none => false
def holdsB (x : Trm) (ls : List Lbl) : Bool :=
  if x.how = 2 then (valOf ls x.key.data.toList).isSome else if x.how = 3 then !(valOf ls x.key.data.toList).isSome else namedB x ls == decide (x.how = 0)
theorem holds_t3 {x y : Trm} (h : t3 x = t3 y) (ls : List Lbl) : holdsB x ls = holdsB y ls := by
  obtain ⟨h1, h2, h3⟩ : x.key = y.key ∧ x.how = y.how ∧ x.ts = y.ts := by
    unfold t3 at h
    injection h with h1 h2 h3
    refine ⟨by rw [← bys_data x.key, ← bys_data y.key, h1], h2, ?_⟩
    rw [← ts_of x.ts, h3, ts_of]
  unfold holdsB namedB
  rw [h1, h2, h3]
theorem contains_txt (v : Value) (ts : List ByteArray) (x : ByteArray) (w : World) (hv : Strs w v ts) :
    Calls Tryd.prog 56 #[v, .string x] w fun e w' => e = .returned (.bool (Lib.containsS ts x)) ∧ w' = w := by
  have hs := hv
  obtain ⟨a, cap, rfl, hlc, hcm⟩ := hv.len
  unfold maxLen at hcm
  cases ts with
  | nil => exact (Tryd.slices_Contains_string_empty a cap x w).mono fun _ _ ⟨he, hw⟩ => ⟨he, hw⟩
  | cons t r =>
    obtain ⟨b, off, rfl, hc0⟩ := hs.at 0 (by simp)
    refine (Tryd.slices_Contains_string b off (t :: r).length cap (t :: r) x w (Nat.le_refl _) (by omega) ?_).mono ?_
    · intro j hj
      obtain ⟨b', off', e', hc⟩ := hs.at j hj
      cases e'
      exact hc
    · rintro e w' ⟨rfl, rfl⟩
      refine ⟨?_, rfl⟩
      rw [List.take_of_length_le (Nat.le_refl _)]
set_option maxHeartbeats 8000000 in
set_option maxRecDepth 100000 in
theorem holds_any (x : Trm) (v : Value) (ls : List Lbl) (pb n : Nat) (D : DataW Unit) (w : World) (hx : x.At w) (hk : x.key.size ≤ maxLen) (hv : Lbls w v ls) (hok : lblsB ls = true) (hM : w.ownsMap Tryd.prog 9 (plainElem Tryd.prog 3) pb n D) (hP : Places D ls ls.length) :
    Calls Tryd.prog 35 #[.agg x.cells.toArray, v, .map (some pb)] w fun e w' => e = .returned (.bool (holdsB x ls)) ∧ Below w.heap.size w w' := by
  obtain ⟨key, how, vals, ts⟩ := x
  have X := Lib.hid hx
  have V := Lib.hid hv
  obtain ⟨a, cap, hvv, hlc, hcm⟩ := hx.1.len
  obtain ⟨al, cl, rfl, hlcl, hcml⟩ := hv.len
  simp only at hvv hk
  subst hvv
  unfold maxLen at hcm hcml
  have KY := Lib.hid (WideMaps.keyOf_string_mk Tryd.underlying9 hk)
  unfold Trm.cells
  obtain ⟨W1, hW1⟩ : ∃ W, W = w.alloc (.cells #[.string key, .int .i64 how, .slice a ts.length cap] 41) := ⟨_, rfl⟩
  have c0 : W1.cell? ⟨w.heap.size, 0, none⟩ = some (.string key) := by rw [hW1, World.cell?_alloc_new]; rfl
  have c1 : W1.cell? ⟨w.heap.size, 1, none⟩ = some (.int .i64 how) := by rw [hW1, World.cell?_alloc_new]; rfl
  have c2 : W1.cell? ⟨w.heap.size, 2, none⟩ = some (.slice a ts.length cap) := by rw [hW1, World.cell?_alloc_new]; rfl
  have hb1 : Below w.heap.size w W1 := by rw [hW1]; exact (Below.refl _ w).alloc (Nat.le_refl _) _
  have B1 := Lib.hid hb1
  have M1 := Lib.hid (hM.kept (row := none) ⟨hb1.os, hb1.tape, hb1.output, hb1.size, fun j hj _ => hb1.block j hj⟩ (by simp))
  have hW' := hW1.symm
  have PP := Lib.hid hP
  have OKL := Lib.hid hok
  clear hb1 hW1 hx hk hv hok hM hP
  obtain ⟨m, hm⟩ : ∃ m, m = ls.length := ⟨_, rfl⟩
  rw [← hm] at hlcl V ⊢
  have HM := Lib.hid hm
  clear hm
  cases hh : Maps.has D (.string key.data.toList) with
  | false =>
    have hno : Hid (valOf ls key.data.toList = none) := Lib.hid (valOf_none fun y hy => by
      obtain ⟨k, hk, e⟩ := mem_get hy
      have := (PP.out.2 key.data.toList).2 hh k hk
      rw [e] at this
      exact this)
    by_cases h2 : how = 2
    · subst h2
      have hr : Hid (holdsB ⟨key, 2, .slice a ts.length cap, ts⟩ ls = false) := Lib.hid (by unfold holdsB; simp [hno.out])
      go_enter Tryd.func35, Tryd.ntmps35
      go_wp2_with (at_lookup; refine wpList_lookup_own_ok_int _ rfl _ _ 59 rfl 9 3 .i64 law Tryd.underlying59 Tryd.underlying3 (zeroE _) pb n D rfl M1.out _ _ rfl KY.out ?_; intro c hat hwc; rw [hh])
      go_ret
      exact ⟨by rw [hr.out]; rfl, B1.out⟩
    have q2 : (how == 2) = false := by rw [beq_eq_false_iff_ne]; exact h2
    by_cases h3 : how = 3
    · subst h3
      have hr : Hid (holdsB ⟨key, 3, .slice a ts.length cap, ts⟩ ls = true) := Lib.hid (by unfold holdsB; simp [hno.out])
      clear q2
      go_enter Tryd.func35, Tryd.ntmps35
      go_wp2_with (at_lookup; refine wpList_lookup_own_ok_int _ rfl _ _ 59 rfl 9 3 .i64 law Tryd.underlying59 Tryd.underlying3 (zeroE _) pb n D rfl M1.out _ _ rfl KY.out ?_; intro c hat hwc; rw [hh])
      go_ret
      exact ⟨by rw [hr.out]; rfl, B1.out⟩
    have q3 : (how == 3) = false := by rw [beq_eq_false_iff_ne]; exact h3
    have hr : Hid (holdsB ⟨key, how, .slice a ts.length cap, ts⟩ ls = !(how == 0)) := Lib.hid (by
      unfold holdsB namedB
      simp only [hno.out, h2, h3, if_false]
      by_cases h0 : how = 0
      · subst h0; rfl
      · rw [decide_eq_false h0, beq_eq_false_iff_ne.2 h0]; rfl)
    have xB : Hid (∀ (dq : Nat) (os : Array Obj), Below W1.heap.size W1 (grow (redrawn W1 dq) os)) := fun dq os => below_regrown W1 dq os
    have r1 : ∀ (dq : Nat) (os : Array Obj), (grow (redrawn W1 dq) os).cell? ⟨w.heap.size, 1, none⟩ = some (.int .i64 how) := fun dq os => cell_regrown c1 dq os
    obtain ⟨zb, hzb⟩ : ∃ zb, zb = (how == 0) := ⟨_, rfl⟩
    rw [← hzb] at hr
    have hzb' := hzb.symm
    clear hzb
    go_enter Tryd.func35, Tryd.ntmps35
    go_wp2_with (at_lookup; refine wpList_lookup_own_ok_int _ rfl _ _ 59 rfl 9 3 .i64 law Tryd.underlying59 Tryd.underlying3 (zeroE _) pb n D rfl M1.out _ _ rfl KY.out ?_; intro c hat hwc; rw [hh])
    refine wp_region_quiet_below (by kernel_rfl) (by kernel_rfl) ?_
    repeat (go_big_quiet_step (fail))
    refine wpQuiet_nil ?_
    intro _ hw'
    obtain ⟨⟨dq, osq⟩, hw''⟩ := hw'
    subst hw''
    go_wp2_with fail
    go_ret
    exact ⟨by rw [hr.out]; rfl, B1.out.trans ((xB.out _ _).mono B1.out.size)⟩
  | true =>
    obtain ⟨i, hi, hki, hati⟩ := (PP.out.2 key.data.toList).1 hh
    have CI : Hid (∀ c : Int, D.atKey (.string key.data.toList) (.lit (.int .i64 0)) = .lit (.int .i64 c) → c = (i : Int)) := Lib.hid fun c hc => by
      rw [hati] at hc
      injection hc with h1
      injection h1 with _ h2
      exact h2.symm
    obtain ⟨b, off, rfl, _, l1⟩ := (V.out.below B1.out).at i hi
    obtain ⟨val, hval⟩ : ∃ val, val = (ls.getD i dL).2 := ⟨_, rfl⟩
    have l1' : W1.cell? ⟨b, off + i * 2 + 1, none⟩ = some (.string val) := by rw [hval]; exact l1
    have hyes : Hid (valOf ls key.data.toList = some val) := Lib.hid (by
      rw [hval]
      refine valOf_first i hi hki fun j hj e => ?_
      have := keys_apart OKL.out (i := j) (j := i) (by omega) hi (by rw [e, hki])
      omega)
    have him : i < m := by rw [HM.out]; exact hi
    have him' : (i : Int) < (m : Int) := by omega
    clear hi hki hati l1 hval
    by_cases h2 : how = 2
    · subst h2
      have hr : Hid (holdsB ⟨key, 2, .slice a ts.length cap, ts⟩ ls = true) := Lib.hid (by unfold holdsB; simp [hyes.out])
      go_enter Tryd.func35, Tryd.ntmps35
      go_wp2_with (at_lookup; refine wpList_lookup_own_ok_int _ rfl _ _ 59 rfl 9 3 .i64 law Tryd.underlying59 Tryd.underlying3 (zeroE _) pb n D rfl M1.out _ _ rfl KY.out ?_; intro c hat hwc; rw [hh]; obtain rfl : c = (i : Int) := CI.out c hat)
      go_ret
      exact ⟨by rw [hr.out]; rfl, B1.out⟩
    have q2 : (how == 2) = false := by rw [beq_eq_false_iff_ne]; exact h2
    by_cases h3 : how = 3
    · subst h3
      have hr : Hid (holdsB ⟨key, 3, .slice a ts.length cap, ts⟩ ls = false) := Lib.hid (by unfold holdsB; simp [hyes.out])
      clear q2
      go_enter Tryd.func35, Tryd.ntmps35
      go_wp2_with (at_lookup; refine wpList_lookup_own_ok_int _ rfl _ _ 59 rfl 9 3 .i64 law Tryd.underlying59 Tryd.underlying3 (zeroE _) pb n D rfl M1.out _ _ rfl KY.out ?_; intro c hat hwc; rw [hh]; obtain rfl : c = (i : Int) := CI.out c hat)
      go_ret
      exact ⟨by rw [hr.out]; rfl, B1.out⟩
    have q3 : (how == 3) = false := by rw [beq_eq_false_iff_ne]; exact h3
    obtain ⟨cb, hcb⟩ : ∃ cb, cb = Lib.containsS ts val := ⟨_, rfl⟩
    have hr : Hid (holdsB ⟨key, how, .slice a ts.length cap, ts⟩ ls = (cb == (how == 0))) := Lib.hid (by
      unfold holdsB namedB
      simp only [hyes.out, h2, h3, if_false]
      rw [hcb]
      by_cases h0 : how = 0
      · subst h0; rfl
      · rw [decide_eq_false h0, beq_eq_false_iff_ne.2 h0])
    have xB : Hid (∀ (dq : Nat) (os : Array Obj), Below W1.heap.size W1 (grow (redrawn W1 dq) os)) := fun dq os => below_regrown W1 dq os
    have xQ : Hid (∀ (dq : Nat) (os : Array Obj), Calls Tryd.prog 56 #[.slice a ts.length cap, .string val] (grow (redrawn W1 dq) os) fun e w'' => e = .returned (.bool cb) ∧ ∃ p : Regrown, w'' = grow (redrawn W1 p.d) p.os) := fun dq os => by
      refine (contains_txt (.slice a ts.length cap) ts val _ ((X.out.1.below B1.out).below (xB.out dq os))).mono ?_
      rintro e w' ⟨rfl, rfl⟩
      exact ⟨by rw [hcb], ⟨dq, os⟩, rfl⟩
    have r1 : ∀ (dq : Nat) (os : Array Obj), (grow (redrawn W1 dq) os).cell? ⟨w.heap.size, 1, none⟩ = some (.int .i64 how) := fun dq os => cell_regrown c1 dq os
    have r2 : ∀ (dq : Nat) (os : Array Obj), (grow (redrawn W1 dq) os).cell? ⟨w.heap.size, 2, none⟩ = some (.slice a ts.length cap) := fun dq os => cell_regrown c2 dq os
    have r3 : ∀ (dq : Nat) (os : Array Obj), (grow (redrawn W1 dq) os).cell? ⟨b, off + i * 2 + 1, none⟩ = some (.string val) := fun dq os => cell_regrown l1' dq os
    obtain ⟨zb, hzb⟩ : ∃ zb, zb = (how == 0) := ⟨_, rfl⟩
    rw [← hzb] at hr
    have hzb' := hzb.symm
    clear hzb hcb
    go_enter Tryd.func35, Tryd.ntmps35
    go_wp2_with (at_lookup; refine wpList_lookup_own_ok_int _ rfl _ _ 59 rfl 9 3 .i64 law Tryd.underlying59 Tryd.underlying3 (zeroE _) pb n D rfl M1.out _ _ rfl KY.out ?_; intro c hat hwc; rw [hh]; obtain rfl : c = (i : Int) := CI.out c hat)
    refine wp_region_quiet_below (by kernel_rfl) (by kernel_rfl) ?_
    repeat (go_big_quiet_step (exact xQ.out _ _))
    refine wpQuiet_nil ?_
    intro _ hw'
    obtain ⟨⟨dq, osq⟩, hw''⟩ := hw'
    subst hw''
    go_wp2_with fail
    go_ret
    exact ⟨by rw [hr.out]; rfl, B1.out.trans ((xB.out _ _).mono B1.out.size)⟩
def matchR (xs : List Trm) (ls : List Lbl) : Bool × Int := if termsB xs = true then if lblsB ls = true then (xs.all fun x => holdsB x ls, 0) else (false, 42) else (false, 43)
end Go.Proofs.YthbbdhhkamccbaaDoor
