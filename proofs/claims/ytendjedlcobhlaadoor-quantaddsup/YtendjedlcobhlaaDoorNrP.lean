/-
  bothValid of every two lists.
-/
import Derived.Test.YtendjedlcobhlaaDoorNrT
import Derived.Test.YtendjedlcobhlaaDoorConcatK
namespace Go.Proofs.YtendjedlcobhlaaDoor
open Go.RowKit Go.Lib
def bothB (l m : List Am) : Bool := decide (amsC l = 0) && decide (amsC m = 0)
set_option maxHeartbeats 4000000 in
set_option maxRecDepth 100000 in
theorem bothValid_any (v u : Value) (l m : List Am) (w : World) (hv : Row kAm w v l) (hu : Row kAm w u m) :
    Calls Tryd.prog 34 #[v, u] w fun e w' => e = .returned (.bool (bothB l m)) ∧ Below w.heap.size w w' := by
  have V := Lib.hid (valid_any v l w hv)
  have U : Hid (∀ W, Below w.heap.size w W → Calls Tryd.prog 16 #[u] W fun e w' => e = .returned (.int .i64 (amsC m)) ∧ Below W.heap.size W w') := Lib.hid fun W h => valid_any u m W (hu.below h)
  have hB : Hid (bothB l m = (decide (amsC l = 0) && decide (amsC m = 0))) := Lib.hid rfl
  obtain ⟨r, hr⟩ : ∃ r, r = bothB l m := ⟨_, rfl⟩
  rw [← hr] at hB ⊢
  obtain ⟨c, hc⟩ : ∃ c, c = amsC l := ⟨_, rfl⟩
  obtain ⟨d, hd⟩ : ∃ d, d = amsC m := ⟨_, rfl⟩
  rw [← hc] at V hB
  rw [← hd] at U hB
  clear hr hc hd hv hu
  by_cases h0 : c = 0
  · subst h0
    go_enter Tryd.func34, Tryd.ntmps34
    go_wp2_with fail
    refine V.out.mono ?_
    rintro e w1 ⟨rfl, hb⟩
    have B1 := Lib.hid hb
    clear hb
    by_cases h1 : d = 0
    · subst h1
      go_wp2_with fail
      refine (U.out w1 B1.out).mono ?_
      rintro e w2 ⟨rfl, hb⟩
      have B2 := Lib.hid (B1.out.trans (hb.mono B1.out.size))
      clear hb
      go_wp2_with fail
      go_ret
      exact ⟨by rw [hB.out]; rfl, B2.out⟩
    · have g1 : (d == 0) = false := by rw [beq_eq_false_iff_ne]; exact h1
      have HB : Hid (r = false) := Lib.hid (by rw [hB.out, decide_eq_false h1]; simp)
      clear h1
      go_wp2_with fail
      refine (U.out w1 B1.out).mono ?_
      rintro e w2 ⟨rfl, hb⟩
      have B2 := Lib.hid (B1.out.trans (hb.mono B1.out.size))
      clear hb
      go_wp2_with fail
      go_ret
      exact ⟨by rw [HB.out]; rfl, B2.out⟩
  · have g0 : (c == 0) = false := by rw [beq_eq_false_iff_ne]; exact h0
    have HB : Hid (r = false) := Lib.hid (by rw [hB.out, decide_eq_false h0]; simp)
    clear h0
    go_enter Tryd.func34, Tryd.ntmps34
    go_wp2_with fail
    refine V.out.mono ?_
    rintro e w1 ⟨rfl, hb⟩
    have B1 := Lib.hid hb
    clear hb
    go_wp2_with fail
    go_ret
    exact ⟨by rw [HB.out]; rfl, B1.out⟩
set_option maxRecDepth 100000 in
theorem grow_zero (k : Int) (hk : k = 0) (w : World) : Calls Tryd.prog 54 #[.slice none 0 0, .int .i64 k] w fun e w' => ∃ v, e = .returned v ∧ w'.ownsRow w.heap.size 32 2 v 0 [] ∧ Below w.heap.size w w' := by
  subst hk
  go_enter Tryd.func54, Tryd.ntmps54
  go_wp2_with fail
  go_ret
  exact ⟨_, rfl, World.ownsRow_nil _ _ _ _, Below.refl _ _⟩
theorem grow_row (n : Nat) (k : Int) (hk : k = n) (w : World) (hn : n * 24 ≤ 140737488355328) : Calls Tryd.prog 54 #[.slice none 0 0, .int .i64 k] w fun e w' => ∃ v, e = .returned v ∧ OwnR kAm w.heap.size w' v [] ∧ Below w.heap.size w w' := by
  rcases Nat.eq_zero_or_pos n with h | h
  · exact grow_zero k (by omega) w
  · exact grow_nil n k hk w h hn
set_option maxHeartbeats 8000000 in
set_option maxRecDepth 100000 in
theorem concat_row (g : Nat) (v u : Value) (l t : List Am) (w : World) (hv : Row kAm w v l) (hu : Row kAm w u t) (hz : (l.length + t.length) * 24 ≤ 140737488355328)
    (c0 : w.cell? ⟨g, 0, none⟩ = some v) (c1 : w.cell? ⟨g, 1, none⟩ = some u) :
    Calls Tryd.prog 35 #[.slice (some ⟨g, 0, none⟩) 2 2] w fun e w' => ∃ v, e = .returned v ∧ OwnR kAm w.heap.size w' v (l ++ t) ∧ Below w.heap.size w w' := by
  have V := Lib.hid hv
  have U := Lib.hid hu
  obtain ⟨va, vc, rfl, hlc, hcm⟩ := hv.len
  obtain ⟨ua, uc, rfl, hlc', hcm'⟩ := hu.len
  unfold maxLen at hcm hcm'
  obtain ⟨n, hn⟩ : ∃ n, n = l.length := ⟨_, rfl⟩
  obtain ⟨m, hm⟩ : ∃ m, m = t.length := ⟨_, rfl⟩
  rw [← hn] at hlc hz V c0
  rw [← hm] at hlc' hz U c1
  have L1 : Hid ((([] : List Am).length + l.length) * kAm.b ≤ 140737488355328) := Lib.hid (by rw [← hn]; show (0 + n) * 24 ≤ _; omega)
  have L2 : Hid ((l.length + t.length) * kAm.b ≤ 140737488355328) := Lib.hid (by rw [← hn, ← hm]; exact hz)
  have n1 : ¬ ((n : Int) < 0) := by omega
  have n2 : ¬ ((n : Int) + (m : Int) < 0) := by omega
  have w2 : wrap64 ((n : Int) + (m : Int)) = (n : Int) + (m : Int) := by unfold wrap64; omega
  clear hv hu hn hm
  go_enter Tryd.func35, Tryd.ntmps35
  go_wp2_with fail
  refine wp_loop_rounds 3 ?_
  rw [rounds_succ]
  go_wp2_with fail
  rw [rounds_succ]
  go_wp2_with fail
  rw [rounds_succ]
  go_wp2_with fail
  refine (grow_row (n + m) _ (by omega) w hz).mono ?_
  rintro e w1 ⟨v1, rfl, O, hb⟩
  have O1 := Lib.hid O
  have B1 := Lib.hid hb
  have d0 := (hb.cell (block_lt_of_cell c0)).trans c0
  have d1 := (hb.cell (block_lt_of_cell c1)).trans c1
  have hg := block_lt_of_cell c0
  clear O hb
  go_wp2_with fail
  refine wp_loop_rounds 3 ?_
  rw [rounds_succ]
  go_wp2_with (at_builtin; refine app_rows okAm (B := w.heap.size) (w := w1) (v := v1) (u := .slice va n vc) (l := []) (m := l) rfl _ _ rfl rfl O1.out B1.out.size rfl (V.out.below B1.out) L1.out ?_)
  intro v2 w2' own2 grown2
  have B2 := Lib.hid (B1.out.trans (grown_belowR grown2 O1.out B1.out.size))
  have O2 : Hid (OwnR kAm w.heap.size w2' v2 l) := Lib.hid (by simpa using own2)
  have e1 := (B2.out.cell (p := ⟨g, 1, none⟩) hg).trans c1
  clear own2 grown2 d0 d1 O1 B1
  go_wp2_with fail
  rw [rounds_succ]
  go_wp2_with (at_builtin; refine app_rows okAm (B := w.heap.size) (w := w2') (v := v2) (u := .slice ua m uc) (l := l) (m := t) rfl _ _ rfl rfl O2.out B2.out.size rfl (U.out.below B2.out) L2.out ?_)
  intro v3 w3 own3 grown3
  have B3 := Lib.hid (B2.out.trans (grown_belowR grown3 O2.out B2.out.size))
  have O3 := Lib.hid own3
  clear own3 grown3 O2 B2 e1
  go_wp2_with fail
  rw [rounds_succ]
  go_wp2_with fail
  go_ret
  exact ⟨v3, rfl, O3.out, B3.out⟩
end Go.Proofs.YtendjedlcobhlaaDoor
