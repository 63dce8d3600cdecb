/-
  The document's Long: value, power.
-/
import Derived.Test.YtjegjpdeclgegaaDoorLgD
import Derived.Deep.RegionWith
import Derived.Deep.LoopGhost
namespace Go.Proofs.YtjegjpdeclgegaaDoor
open Go.RowKit Go.Lib
open Go.Sort (grow)
namespace Lg
theorem long_max (w : World) : Calls Tryd.prog 12 #[.int .i64 9223372036854775807] w fun e w' => ∃ a n c, e = .returned (.agg #[.slice a n c]) ∧ Row kI w' (.slice a n c) (dg 9223372036854775807) ∧ n ≤ 1000 ∧ Below w.heap.size w w' := by
  refine (long_any 9223372036854775807 w (Nat.le_refl _)).mono ?_
  rintro e w' ⟨a, n, c, h1, h2, h3⟩
  refine ⟨a, n, c, h1, h2, ?_, h3⟩
  obtain ⟨_, _, e, _⟩ := h2.len
  simp only [Value.slice.injEq] at e
  rw [e.2.1]
  exact Nat.le_trans (dg_len_lt (k := 19) (by decide)) (by decide)
theorem less_no (a a' : Option Addr) (n n' c c' : Nat) (p q : Nat) (w : World) (hv : Row kI w (.slice a n c) (dg p)) (hu : Row kI w (.slice a' n' c') (dg q)) (hn : n ≤ 1000) (h : ¬ p < q) :
    Calls Tryd.prog 29 #[.agg #[.slice a n c], .agg #[.slice a' n' c']] w fun e w' => e = .returned (.bool false) ∧ Below w.heap.size w w' := by
  have q := less_any a a' n n' c c' p q w hv hu hn
  rw [decide_eq_false h] at q; exact q
theorem less_yes (a a' : Option Addr) (n n' c c' : Nat) (p q : Nat) (w : World) (hv : Row kI w (.slice a n c) (dg p)) (hu : Row kI w (.slice a' n' c') (dg q)) (hn : n ≤ 1000) (h : p < q) :
    Calls Tryd.prog 29 #[.agg #[.slice a n c], .agg #[.slice a' n' c']] w fun e w' => e = .returned (.bool true) ∧ Below w.heap.size w w' := by
  have q := less_any a a' n n' c c' p q w hv hu hn
  rw [decide_eq_true h] at q; exact q

set_option maxHeartbeats 8000000 in
set_option maxRecDepth 100000 in
theorem value_yes (a : Option Addr) (n c : Nat) (p : Nat) (w : World) (hv : Row kI w (.slice a n c) (dg p)) (hn : n ≤ 1000) (hp : p ≤ 9223372036854775807) :
    Calls Tryd.prog 36 #[.agg #[.slice a n c]] w fun e w' => e = .returned (.tuple #[.int .i64 (p : Int), .bool true]) ∧ Below w.heap.size w w' := by
  have V := Lib.hid hv
  have HP := Lib.hid hp
  have HN : Hid (n = (dg p).length) := Lib.hid (by obtain ⟨_, _, e, _⟩ := hv.len; simp only [Value.slice.injEq] at e; exact e.2.1)
  obtain ⟨A, hA⟩ : ∃ A, A = dg p := ⟨_, rfl⟩
  have DD : Hid (Dgs A ∧ vl A = p ∧ A = dg p) := Lib.hid (by rw [hA]; exact ⟨dgs_dg _, vl_dg _, rfl⟩)
  obtain ⟨W1, hW1⟩ : ∃ W, W = w.alloc (.cells #[.slice a n c] 40) := ⟨_, rfl⟩
  have F1 : Hid (W1.heap.size = w.heap.size + 1 ∧ Below w.heap.size w W1 ∧ W1.heap[w.heap.size]? = some (.cells #[.slice a n c] 40 (0, 0))) := Lib.hid (by
    subst hW1
    exact ⟨by simp, (Below.refl _ w).alloc (Nat.le_refl _) _, heap_alloc_new _ _⟩)
  have EW := Lib.hid hW1
  have LX := Lib.hid long_max
  have LS : Hid (∀ W a6 n6 c6, Below w.heap.size w W → n6 ≤ 1000 → Row kI W (.slice a6 n6 c6) (dg 9223372036854775807) → Calls Tryd.prog 29 #[.agg #[.slice a6 n6 c6], .agg #[.slice a n c]] W fun e w' => e = .returned (.bool false) ∧ Below W.heap.size W w') := Lib.hid fun W a6 n6 c6 hW h6 hr => less_no a6 a n6 n c6 c _ p W hr (V.out.below hW) h6 (by have := HP.out; omega)
  clear hA hv hp hW1
  have q0 : W1.drew.cell? ⟨w.heap.size, 0, none⟩ = some (.slice a n c) := cell1 F1.out.2.2
  go_enter Tryd.func36, Tryd.ntmps36
  go_wp2_with fail
  rw [← EW.out]
  clear EW
  go_region_with (first | (go_at_call 12; refine (LX.out _).mono ?_; rintro e w6 ⟨a6, n6, c6, rfl, hr6, hn6, hb6⟩; have S6 : Hid (Below (w.heap.size + 1) W1 w6 ∧ Row kI w6 (.slice a6 n6 c6) (dg 9223372036854775807) ∧ n6 ≤ 1000) := Lib.hid ⟨(Below.refl (w.heap.size + 1) W1).drew.trans (hb6.mono (by show w.heap.size + 1 ≤ W1.heap.size; rw [F1.out.1]; exact Nat.le_refl _)), hr6, hn6⟩; have p6 : w6.cell? ⟨w.heap.size, 0, none⟩ = some (.slice a n c) := cell1 ((S6.out.1.block _ (Nat.lt_succ_self _)).trans F1.out.2.2); clear hr6 hb6 hn6) | (go_at_call 29; refine (LS.out _ a6 n6 c6 (F1.out.2.1.trans (S6.out.1.mono (Nat.le_succ _))) S6.out.2.2 S6.out.2.1).mono ?_; rintro e w7 ⟨rfl, hb7⟩; have S7 : Hid (Below (w.heap.size + 1) W1 w7) := Lib.hid (S6.out.1.trans (hb7.mono (by have q := S6.out.1.size; rw [F1.out.1] at q; exact q))); clear hb7))
  all_goals
    have p7 : w7.cell? ⟨w.heap.size, 0, none⟩ = some (.slice a n c) := cell1 ((S7.out.block _ (Nat.lt_succ_self _)).trans F1.out.2.2)
    go_wp2_with fail
    go_loopg [4, 5] n (fun g sv si wr => ∃ k : Nat, g = k ∧ k ≤ n ∧ si = .int .i64 ((k : Int) - 1) ∧ sv = .int .i64 ((vl (A.drop k) : Nat) : Int) ∧ wr = w7)
    case atStart => exact ⟨n, rfl, Nat.le_refl _, by first | rfl | (congr 1; unfold wrap64; omega), by rw [List.drop_eq_nil_of_le (by rw [DD.out.2.2, ← HN.out]; exact Nat.le_refl _)]; rfl, rfl⟩
    case round =>
      obtain ⟨k, hg, hk, rfl, rfl, rfl⟩ := hrel
      have R := Lib.hid hg
      clear hg
      rcases Nat.eq_zero_or_pos k with h0 | h0
      · subst h0
        have gz : decide (((0 : Nat) : Int) - 1 ≥ 0) = false := by decide
        have E : Hid (vl (A.drop 0) = p) := Lib.hid (by rw [List.drop_zero]; exact DD.out.2.1)
        rw [E.out]
        go_wp2_with fail
        go_ret2
        exact ⟨rfl, F1.out.2.1.trans (S7.out.mono (Nat.le_succ _))⟩
      · obtain ⟨i, rfl⟩ : ∃ i, k = i + 1 := ⟨k - 1, by omega⟩
        have ei : (((i + 1 : Nat) : Int) - 1) = (i : Int) := by omega
        rw [ei]
        clear ei
        have gi : decide ((i : Int) ≥ 0) = true := decide_eq_true (by omega)
        have hin : (i : Int) < (n : Int) := by omega
        obtain ⟨x, hx⟩ : ∃ x, x = A.getD i 0 := ⟨_, rfl⟩
        obtain ⟨b, off, rfl, c0⟩ := Row.one (V.out.below (F1.out.2.1.trans (S7.out.mono (Nat.le_succ _)))) i (by rw [← HN.out]; omega)
        rw [← DD.out.2.2, ← hx] at c0
        obtain ⟨y, hy⟩ : ∃ y, y = vl (A.drop (i + 1)) := ⟨_, rfl⟩
        obtain ⟨z, hz⟩ : ∃ z, z = vl (A.drop i) := ⟨_, rfl⟩
        have hz1 : z = x + 10 * y := by rw [hz, hx, hy]; exact vl_drop A i (by rw [DD.out.2.2, ← HN.out]; omega)
        have hz2 : z ≤ 9223372036854775807 := by
          have e := vl_split A i (by rw [DD.out.2.2, ← HN.out]; omega)
          rw [DD.out.2.1, ← hz] at e
          have q1 : 1 * z ≤ 10 ^ i * z := Nat.mul_le_mul_right z (Nat.pow_pos (n := i) (show 0 < 10 by decide))
          have := HP.out
          omega
        rw [← hy]
        have e1 : wrap64 ((y : Int) * 10) = (y : Int) * 10 := by unfold wrap64; omega
        have e2 : wrap64 ((y : Int) * 10 + (x : Int)) = (z : Int) := by rw [hz1]; unfold wrap64; omega
        have ZZ := Lib.hid hz
        clear hx hy hz hz1 hz2
        go_wp2_with fail
        go_roundg i
        case measure => have := R.out; omega
        case rel => exact ⟨i, rfl, by omega, by first | rfl | (congr 1; unfold wrap64; omega), by rw [← ZZ.out]; first | rfl | (congr 1; unfold wrap64; omega) | (rw [e2]) | (simp [e1, e2]), rfl⟩

set_option maxHeartbeats 8000000 in
set_option maxRecDepth 100000 in
theorem value_no (a : Option Addr) (n c : Nat) (p : Nat) (w : World) (hv : Row kI w (.slice a n c) (dg p)) (hp : 9223372036854775807 < p) :
    Calls Tryd.prog 36 #[.agg #[.slice a n c]] w fun e w' => e = .returned (.tuple #[.int .i64 0, .bool false]) ∧ Below w.heap.size w w' := by
  have V := Lib.hid hv
  have HP := Lib.hid hp
  have HN : Hid (n = (dg p).length) := Lib.hid (by obtain ⟨_, _, e, _⟩ := hv.len; simp only [Value.slice.injEq] at e; exact e.2.1)
  obtain ⟨A, hA⟩ : ∃ A, A = dg p := ⟨_, rfl⟩
  have DD : Hid (Dgs A ∧ vl A = p ∧ A = dg p) := Lib.hid (by rw [hA]; exact ⟨dgs_dg _, vl_dg _, rfl⟩)
  obtain ⟨W1, hW1⟩ : ∃ W, W = w.alloc (.cells #[.slice a n c] 40) := ⟨_, rfl⟩
  have F1 : Hid (W1.heap.size = w.heap.size + 1 ∧ Below w.heap.size w W1 ∧ W1.heap[w.heap.size]? = some (.cells #[.slice a n c] 40 (0, 0))) := Lib.hid (by
    subst hW1
    exact ⟨by simp, (Below.refl _ w).alloc (Nat.le_refl _) _, heap_alloc_new _ _⟩)
  have EW := Lib.hid hW1
  have LX := Lib.hid long_max
  have LS : Hid (∀ W a6 n6 c6, Below w.heap.size w W → n6 ≤ 1000 → Row kI W (.slice a6 n6 c6) (dg 9223372036854775807) → Calls Tryd.prog 29 #[.agg #[.slice a6 n6 c6], .agg #[.slice a n c]] W fun e w' => e = .returned (.bool true) ∧ Below W.heap.size W w') := Lib.hid fun W a6 n6 c6 hW h6 hr => less_yes a6 a n6 n c6 c _ p W hr (V.out.below hW) h6 (by exact HP.out)
  clear hA hv hp hW1
  have q0 : W1.drew.cell? ⟨w.heap.size, 0, none⟩ = some (.slice a n c) := cell1 F1.out.2.2
  go_enter Tryd.func36, Tryd.ntmps36
  go_wp2_with fail
  rw [← EW.out]
  clear EW
  go_region_with (first | (go_at_call 12; refine (LX.out _).mono ?_; rintro e w6 ⟨a6, n6, c6, rfl, hr6, hn6, hb6⟩; have S6 : Hid (Below (w.heap.size + 1) W1 w6 ∧ Row kI w6 (.slice a6 n6 c6) (dg 9223372036854775807) ∧ n6 ≤ 1000) := Lib.hid ⟨(Below.refl (w.heap.size + 1) W1).drew.trans (hb6.mono (by show w.heap.size + 1 ≤ W1.heap.size; rw [F1.out.1]; exact Nat.le_refl _)), hr6, hn6⟩; have p6 : w6.cell? ⟨w.heap.size, 0, none⟩ = some (.slice a n c) := cell1 ((S6.out.1.block _ (Nat.lt_succ_self _)).trans F1.out.2.2); clear hr6 hb6 hn6) | (go_at_call 29; refine (LS.out _ a6 n6 c6 (F1.out.2.1.trans (S6.out.1.mono (Nat.le_succ _))) S6.out.2.2 S6.out.2.1).mono ?_; rintro e w7 ⟨rfl, hb7⟩; have S7 : Hid (Below (w.heap.size + 1) W1 w7) := Lib.hid (S6.out.1.trans (hb7.mono (by have q := S6.out.1.size; rw [F1.out.1] at q; exact q))); clear hb7))
  all_goals
    have p7 : w7.cell? ⟨w.heap.size, 0, none⟩ = some (.slice a n c) := cell1 ((S7.out.block _ (Nat.lt_succ_self _)).trans F1.out.2.2)
    go_wp2_with fail
    go_ret2
    exact ⟨rfl, F1.out.2.1.trans (S7.out.mono (Nat.le_succ _))⟩

set_option maxHeartbeats 8000000 in
set_option maxRecDepth 100000 in
theorem power_fr (base : Nat) (m : Nat) (w : World) (hb : base ≤ 9223372036854775807) (hm : m ≤ 40) :
    Calls Tryd.prog 26 #[.int .i64 (base : Int), .int .i64 (m : Int)] w fun e w' => ∃ a n c, e = .returned (.agg #[.slice a n c]) ∧ Row kI w' (.slice a n c) (dg (base ^ m)) ∧ Fr w.heap.size a ∧ Below w.heap.size w w' := by
  have HB := Lib.hid hb
  have PL : Hid (∀ i, i ≤ m → (dg (base ^ i)).length ≤ 1000) := Lib.hid fun i hi => by
    have h1 : base < 10 ^ 19 := by omega
    have h2 : base ^ i < 10 ^ (20 * i + 1) := by
      have q := Nat.pow_le_pow_left (Nat.le_of_lt h1) i
      rw [← Nat.pow_mul] at q
      exact Nat.lt_of_le_of_lt q (Nat.pow_lt_pow_right (by decide) (by omega))
    have := dg_len_lt h2
    omega
  have BL : Hid ((dg base).length ≤ 1000) := Lib.hid (Nat.le_trans (dg_len_lt (k := 19) (by omega)) (by decide))
  have L1 := Lib.hid (fun W => long_fr 1 W (by decide))
  have LB := Lib.hid (fun W => long_any base W hb)
  clear hb
  go_enter Tryd.func26, Tryd.ntmps26
  go_wp2_with fail
  refine (L1.out _).mono ?_
  rintro e w2 ⟨a2, n2, c2, rfl, hr2, hfr2, hb2⟩
  have FR2 : Hid (Fr w.heap.size a2) := Lib.hid (hfr2.mono (by simp))
  clear hfr2
  obtain ⟨g5, hg5⟩ : ∃ g, g = w2.heap.size := ⟨_, rfl⟩
  obtain ⟨W1, hW1⟩ : ∃ W, W = w.alloc (.cells #[.slice none 0 0] 40) := ⟨_, rfl⟩
  rw [← hW1] at hb2
  have F1 : Hid (Below w.heap.size w W1 ∧ W1.heap[w.heap.size]? = some (.cells #[.slice none 0 0] 40 (0, 0)) ∧ W1.heap.size = w.heap.size + 1) := Lib.hid (by
    subst hW1
    exact ⟨(Below.refl _ w).alloc (Nat.le_refl _) _, heap_alloc_new _ _, by simp⟩)
  obtain ⟨W3, hW3⟩ : ∃ W, W = w2.alloc (.cells #[.slice a2 n2 c2] 40) := ⟨_, rfl⟩
  have F3 : Hid (W3.heap[g5]? = some (.cells #[.slice a2 n2 c2] 40 (0, 0)) ∧ Row kI W3 (.slice a2 n2 c2) (dg 1) ∧ Below (w.heap.size + 1) W1 W3 ∧ w.heap.size + 1 ≤ g5) := Lib.hid (by
    have q : Below w2.heap.size w2 W3 := by rw [hW3]; exact (Below.refl _ w2).alloc (Nat.le_refl _) _
    have q1 := hb2.size
    rw [F1.out.2.2] at q1 hb2
    refine ⟨by rw [hW3, hg5]; exact heap_alloc_new _ _, hr2.below q, hb2.trans (q.mono q1), by rw [hg5]; exact q1⟩)
  have EW := Lib.hid (And.intro hW3 hg5)
  clear hW3 hg5 hr2 hb2 hW1
  go_wp2_with fail
  rw [← EW.out.1, ← EW.out.2]
  clear EW
  go_loopg [6] m (fun g si wr => ∃ (i : Nat) (pa : Option Addr) (pn pc : Nat), g = m - i ∧ i ≤ m ∧ si = .int .i64 i ∧ wr.heap[g5]? = some (.cells #[.slice pa pn pc] 40 (0, 0)) ∧ Row kI wr (.slice pa pn pc) (dg (base ^ i)) ∧ Below (w.heap.size + 1) W1 wr ∧ Fr w.heap.size pa)
  case atStart => exact ⟨0, a2, n2, c2, rfl, Nat.zero_le _, rfl, F3.out.1, by rw [Nat.pow_zero]; exact F3.out.2.1, F3.out.2.2.1, FR2.out⟩
  case round =>
    obtain ⟨i, pa, pn, pc, hg, hi, rfl, hh, hr, hb, hfr⟩ := hrel
    have FRP := Lib.hid hfr
    clear hfr
    have R : Hid (gk = m - i ∧ wr.heap[g5]? = some (.cells #[.slice pa pn pc] 40 (0, 0)) ∧ Row kI wr (.slice pa pn pc) (dg (base ^ i)) ∧ Below (w.heap.size + 1) W1 wr) := Lib.hid ⟨hg, hh, hr, hb⟩
    clear hg hh hr hb
    have p0 := cell1 R.out.2.1
    have GL : Hid (g5 < wr.heap.size) := Lib.hid (block_lt_of_cell p0)
    by_cases hlt : i < m
    · have hin : (i : Int) < (m : Int) := by omega
      have q0 : wr.drew.cell? ⟨g5, 0, none⟩ = some (.slice pa pn pc) := p0
      have PN : Hid (pn ≤ 1000) := Lib.hid (by
        obtain ⟨_, _, e, _⟩ := R.out.2.2.1.len
        simp only [Value.slice.injEq] at e
        rw [e.2.1]; exact PL.out i (by omega))
      go_wp2_with fail
      go_region_with (first | (go_at_call 12; refine (LB.out _).mono ?_; rintro e w6 ⟨a6, n6, c6, rfl, hr6, hb6⟩; have S6 : Hid (Below wr.heap.size wr w6 ∧ Row kI w6 (.slice a6 n6 c6) (dg base) ∧ n6 ≤ 1000) := Lib.hid ⟨(Below.refl wr.heap.size wr).drew.trans hb6, hr6, by obtain ⟨_, _, e, _⟩ := hr6.len; simp only [Value.slice.injEq] at e; rw [e.2.1]; exact BL.out⟩; have p6 : w6.cell? ⟨g5, 0, none⟩ = some (.slice pa pn pc) := cell1 ((S6.out.1.block _ GL.out).trans R.out.2.1); clear hr6 hb6) | (go_at_call 27; refine (times_fr pa a6 pn n6 pc c6 (base ^ i) base _ (R.out.2.2.1.below S6.out.1) S6.out.2.1 PN.out S6.out.2.2).mono ?_; rintro e w7 ⟨a7, n7, c7, rfl, hr7, hfr7, hb7⟩; have FR7 : Hid (Fr w.heap.size a7) := Lib.hid (hfr7.mono (by have q1 := S6.out.1.size; have q2 := R.out.2.2.2.size; rw [F1.out.2.2] at q2; omega)); clear hfr7; have S7 : Hid (Below wr.heap.size wr w7 ∧ Row kI w7 (.slice a7 n7 c7) (dg (base ^ (i + 1)))) := Lib.hid ⟨S6.out.1.trans (hb7.mono S6.out.1.size), by rw [Nat.pow_succ]; exact hr7⟩; have H7 : Hid (w7.heap[g5]? = some (.cells #[.slice pa pn pc] 40 (0, 0))) := Lib.hid ((S7.out.1.block _ GL.out).trans R.out.2.1); have p7 := cell1 H7.out; have f7 := frz H7.out 0; clear hr7 hb7))
      all_goals
        obtain ⟨W8, hW8⟩ : ∃ W, W = w7.setCell ⟨g5, 0, none⟩ (.slice a7 n7 c7) := ⟨_, rfl⟩
        have S8 : Hid (W8.heap[g5]? = some (.cells #[.slice a7 n7 c7] 40 (0, 0)) ∧ Row kI W8 (.slice a7 n7 c7) (dg (base ^ (i + 1))) ∧ Below (w.heap.size + 1) W1 W8) := Lib.hid (by
          rw [hW8]
          have q := R.out.2.2.2.size
          rw [F1.out.2.2] at q
          exact ⟨set1 H7.out _, row_set H7.out S7.out.2 _, (R.out.2.2.2.trans (S7.out.1.mono q)).setCell (p := ⟨g5, 0, none⟩) F3.out.2.2.2 _⟩)
        rw [← hW8]
        clear hW8 p7 f7
        go_wp2_with fail
        go_roundg (m - (i + 1))
        case measure => have := R.out.1; omega
        case rel => exact ⟨i + 1, a7, n7, c7, rfl, by omega, by first | rfl | go_num, S8.out.1, S8.out.2.1, S8.out.2.2, FR7.out⟩
    · obtain rfl : i = m := by omega
      have hin : ¬ (i : Int) < (i : Int) := by omega
      have H0 : Hid (wr.heap[w.heap.size]? = some (.cells #[.slice none 0 0] 40 (0, 0))) := Lib.hid ((R.out.2.2.2.block _ (Nat.lt_succ_self _)).trans F1.out.2.1)
      have t0 := cell1 H0.out
      have f0 := frz H0.out 0
      go_wp2_with fail
      refine bodyPost_ret (results_cell_row rfl _ _ w.heap.size 40 #[_] (0, 0) _ rfl (set1 H0.out _) Tryd.underlying40 rfl size_long) rfl ?_
      have B7 : Below w.heap.size w (wr.setCell ⟨w.heap.size, 0, none⟩ (.slice pa pn pc)) := (F1.out.1.trans (R.out.2.2.2.mono (Nat.le_succ _))).setCell (Nat.le_refl _) _
      exact ⟨pa, pn, pc, rfl, row_set H0.out R.out.2.2.1 _, FRP.out, B7⟩
theorem power_any (base : Nat) (m : Nat) (w : World) (hb : base ≤ 9223372036854775807) (hm : m ≤ 40) :
    Calls Tryd.prog 26 #[.int .i64 (base : Int), .int .i64 (m : Int)] w fun e w' => ∃ a n c, e = .returned (.agg #[.slice a n c]) ∧ Row kI w' (.slice a n c) (dg (base ^ m)) ∧ Below w.heap.size w w' :=
  (power_fr base m w hb hm).mono fun _ _ ⟨a, n, c, h1, h2, _, h4⟩ => ⟨a, n, c, h1, h2, h4⟩
end Lg
end Go.Proofs.YtjegjpdeclgegaaDoor
