/-
  The document's Long: plus, minus, less.
-/
import Derived.Test.YtjegjpdeclgegaaDoorLgA
namespace Go.Proofs.YtjegjpdeclgegaaDoor
open Go.RowKit Go.Lib
open Go.Sort (grow)
namespace Lg
theorem at_q {w : World} {a : Option Addr} {n c : Nat} {d : List Nat} (hv : Row kI w (.slice a n c) d) (i : Nat) (x : Nat) (hx : x = d.getD i 0) : ∀ dq os, Calls Tryd.prog 49 #[.agg #[.slice a n c], .int .i64 (i : Int)] (grow (redrawn w dq) os) fun e w'' => e = .returned (.int .i64 (x : Int)) ∧ ∃ p : Regrown, w'' = grow (redrawn w p.d) p.os := fun dq os => by
  subst hx
  exact Calls.regrown_of ((at_any a n c d i _ (hv.below (below_regrown w dq os))).mono fun _ _ ⟨e, q⟩ => ⟨e, q⟩)
theorem plus_step {A B d : List Nat} {i cr x y s : Nat} (h : vl d + 10 ^ i * cr = vl (A.take i) + vl (B.take i)) (hl : d.length = i) (hx : x = A.getD i 0) (hy : y = B.getD i 0) (hs : s = x + y + cr) : vl (d ++ [s % 10]) + 10 ^ (i + 1) * (s / 10) = vl (A.take (i + 1)) + vl (B.take (i + 1)) := by
  rw [vl_snoc, hl, vl_take_succ', vl_take_succ', ← hx, ← hy, Nat.pow_succ]
  have e1 : 10 ^ i * (s % 10) + 10 ^ i * 10 * (s / 10) = 10 ^ i * s := by
    rw [Nat.mul_assoc, ← Nat.mul_add]; congr 1; omega
  have e2 : 10 ^ i * s = 10 ^ i * x + 10 ^ i * y + 10 ^ i * cr := by rw [hs, Nat.mul_add, Nat.mul_add]
  omega
set_option maxHeartbeats 8000000 in
set_option maxRecDepth 100000 in
theorem plus_any (a a' : Option Addr) (n n' c c' : Nat) (p q : Nat) (w : World) (hv : Row kI w (.slice a n c) (dg p)) (hu : Row kI w (.slice a' n' c') (dg q)) (hn : n ≤ 1000) (hn' : n' ≤ 1000) :
    Calls Tryd.prog 35 #[.agg #[.slice a n c], .agg #[.slice a' n' c']] w fun e w' => ∃ a n c, e = .returned (.agg #[.slice a n c]) ∧ Row kI w' (.slice a n c) (dg (p + q)) ∧ Below w.heap.size w w' := by
  have V := Lib.hid hv
  have U := Lib.hid hu
  have HN : Hid (n = (dg p).length) := Lib.hid (by obtain ⟨_, _, e, _⟩ := hv.len; simp only [Value.slice.injEq] at e; exact e.2.1)
  have HN' : Hid (n' = (dg q).length) := Lib.hid (by obtain ⟨_, _, e, _⟩ := hu.len; simp only [Value.slice.injEq] at e; exact e.2.1)
  obtain ⟨M, hM⟩ : ∃ M, M = max n n' := ⟨_, rfl⟩
  have hM1 : n ≤ M := by omega
  have hM2 : n' ≤ M := by omega
  have hM3 : M ≤ 1000 := by omega
  have hM4 : Hid (M = n ∨ M = n') := Lib.hid (by omega)
  obtain ⟨A, hA⟩ : ∃ A, A = dg p := ⟨_, rfl⟩
  obtain ⟨B, hB⟩ : ∃ B, B = dg q := ⟨_, rfl⟩
  rw [← hA] at V HN
  rw [← hB] at U HN'
  have DD : Hid (Dgs A ∧ Dgs B ∧ vl A = p ∧ vl B = q) := Lib.hid (by rw [hA, hB]; exact ⟨dgs_dg _, dgs_dg _, vl_dg _, vl_dg _⟩)
  obtain ⟨W3, hW3⟩ : ∃ W, W = ((w.alloc (.cells #[.slice a n c] 40)).alloc (.cells #[.slice a' n' c'] 40)).alloc (.cells #[.slice none 0 0] 40) := ⟨_, rfl⟩
  have F3 : Hid (W3.heap.size = w.heap.size + 3 ∧ Below w.heap.size w W3 ∧ W3.heap[w.heap.size]? = some (.cells #[.slice a n c] 40 (0, 0)) ∧ W3.heap[w.heap.size + 1]? = some (.cells #[.slice a' n' c'] 40 (0, 0)) ∧ W3.heap[w.heap.size + 1 + 1]? = some (.cells #[.slice none 0 0] 40 (0, 0))) := Lib.hid (by
    subst hW3
    refine ⟨by simp, (((Below.refl _ w).alloc (Nat.le_refl _) _).alloc (by simp) _).alloc (by simp; omega) _, ?_, ?_, ?_⟩
    · rw [Below.heap_alloc _ _ _ (by simp; omega), Below.heap_alloc _ _ _ (by simp), heap_alloc_new]
    · rw [Below.heap_alloc _ _ _ (by simp)]
      have q := heap_alloc_new (w.alloc (.cells #[.slice a n c] 40)) (.cells #[.slice a' n' c'] 40)
      simpa using q
    · have q := heap_alloc_new ((w.alloc (.cells #[.slice a n c] 40)).alloc (.cells #[.slice a' n' c'] 40)) (.cells #[.slice none 0 0] 40)
      simpa using q)
  have EW := Lib.hid hW3
  clear hW3 hM hA hB hv hu hn hn'
  go_enter Tryd.func35, Tryd.ntmps35
  go_wp2_with fail
  rw [← EW.out]
  clear EW
  go_loopg [5, 6, 7] (M + 1) (fun g sd sc si wr => ∃ (i cr : Nat) (d : List Nat) (ad : Option Addr) (m cap : Nat), g = M + 1 - i ∧ i ≤ M + 1 ∧ si = .int .i64 i ∧ sc = .int .i64 cr ∧ sd = .slice ad m cap ∧ (i ≤ M ∨ cr = 0) ∧ cr ≤ 1 ∧ Dgs d ∧ d.length = i ∧ vl d + 10 ^ i * cr = vl (A.take i) + vl (B.take i) ∧ OwnR kI (w.heap.size + 3) wr (.slice ad m cap) d ∧ Below (w.heap.size + 3) W3 wr)
  case atStart => exact ⟨0, 0, [], none, 0, 0, rfl, by omega, rfl, rfl, rfl, Or.inr rfl, by omega, (fun x hx => by cases hx), rfl, rfl, OwnR.nil _ _ _, Below.refl _ _⟩
  case round =>
    obtain ⟨i, cr, d, ad, m, cap, hg, hi, rfl, rfl, rfl, hor, hcr, hD, hlen, hval, ho, hb⟩ := hrel
    have R : Hid (gk = M + 1 - i ∧ (i ≤ M ∨ cr = 0) ∧ Dgs d ∧ d.length = i ∧ vl d + 10 ^ i * cr = vl (A.take i) + vl (B.take i) ∧ OwnR kI (w.heap.size + 3) wr (.slice ad m cap) d ∧ Below (w.heap.size + 3) W3 wr) := Lib.hid ⟨hg, hor, hD, hlen, hval, ho, hb⟩
    clear hg hor hD hlen hval ho hb
    have BW : Hid (Below w.heap.size w wr) := Lib.hid (F3.out.2.1.trans (R.out.2.2.2.2.2.2.mono (by omega)))
    have H0 : Hid (wr.heap[w.heap.size]? = some (.cells #[.slice a n c] 40 (0, 0))) := Lib.hid ((R.out.2.2.2.2.2.2.block _ (by omega)).trans F3.out.2.2.1)
    have H1 : Hid (wr.heap[w.heap.size + 1]? = some (.cells #[.slice a' n' c'] 40 (0, 0))) := Lib.hid ((R.out.2.2.2.2.2.2.block _ (by omega)).trans F3.out.2.2.2.1)
    have H2 : Hid (wr.heap[w.heap.size + 1 + 1]? = some (.cells #[.slice none 0 0] 40 (0, 0))) := Lib.hid ((R.out.2.2.2.2.2.2.block _ (by omega)).trans F3.out.2.2.2.2)
    have p0 := cell1 H0.out
    have p1 := cell1 H1.out
    obtain ⟨x, hx⟩ : ∃ x, x = A.getD i 0 := ⟨_, rfl⟩
    obtain ⟨y, hy⟩ : ∃ y, y = B.getD i 0 := ⟨_, rfl⟩
    have hx9 : x < 10 := by rw [hx]; exact getD_lt DD.out.1 i
    have hy9 : y < 10 := by rw [hy]; exact getD_lt DD.out.2.1 i
    obtain ⟨s, hs⟩ : ∃ s, s = x + y + cr := ⟨_, rfl⟩
    obtain ⟨r, hr⟩ : ∃ r, r = s % 10 := ⟨_, rfl⟩
    obtain ⟨qt, hq⟩ : ∃ qt, qt = s / 10 := ⟨_, rfl⟩
    have e0 : IntKind.i64.wrap ((x : Int) + (y : Int)) = (x : Int) + (y : Int) := by simp [IntKind.wrap, IntKind.bits, IntKind.signed]; omega
    have e00 : IntKind.i64.wrap ((x : Int) + (y : Int) + (cr : Int)) = (s : Int) := by rw [hs]; simp [IntKind.wrap, IntKind.bits, IntKind.signed]; omega
    have e1 : (s : Int).tmod 10 = (r : Int) := by rw [hr, Int.tmod_eq_emod_of_nonneg (by omega)]; omega
    have e2 : (s : Int).tdiv 10 = (qt : Int) := by rw [hq, Int.tdiv_eq_ediv_of_nonneg (by omega)]; omega
    have hq1 : qt ≤ 1 := by omega
    have Q : Hid (x = A.getD i 0 ∧ y = B.getD i 0 ∧ s = x + y + cr ∧ r = s % 10 ∧ qt = s / 10 ∧ cr ≤ 1) := Lib.hid ⟨hx, hy, hs, hr, hq, hcr⟩
    clear hx hy hs hr hq hcr
    have A0 := Lib.hid (at_q (V.out.below BW.out) i x Q.out.1)
    have A1 := Lib.hid (at_q (U.out.below BW.out) i y Q.out.2.1)
    have r0 : ∀ (dq : Nat) (os : Array Obj), (grow (redrawn wr dq) os).cell? ⟨w.heap.size, 0, none⟩ = some (.slice a n c) := fun dq os => cell_regrown p0 dq os
    have r1 : ∀ (dq : Nat) (os : Array Obj), (grow (redrawn wr dq) os).cell? ⟨w.heap.size + 1, 0, none⟩ = some (.slice a' n' c') := fun dq os => cell_regrown p1 dq os
    have ST : Hid (vl (d ++ [r]) + 10 ^ (i + 1) * qt = vl (A.take (i + 1)) + vl (B.take (i + 1)) ∧ Dgs (d ++ [r])) := Lib.hid ⟨by rw [Q.out.2.2.2.1, Q.out.2.2.2.2.1]; exact plus_step R.out.2.2.2.2.1 R.out.2.2.2.1 Q.out.1 Q.out.2.1 Q.out.2.2.1, dgs_app R.out.2.2.1 (dgs_one (by have := Q.out.2.2.2.1; omega))⟩
    have LN : Hid ((d.length + 1) * kI.b ≤ 140737488355328) := Lib.hid (by rw [R.out.2.2.2.1]; show (i + 1) * 8 ≤ _; omega)
    by_cases g1 : i < n
    · have hiM : i ≤ M := by omega
      have ORR : Hid (i + 1 ≤ M ∨ qt = 0) := Lib.hid (Or.inl (by omega))
      have g1 : decide ((i : Int) < (n : Int)) = true := decide_eq_true (by omega)
      go_wp2_with fail
      refine wp_region_quiet_below (by kernel_rfl) (by kernel_rfl) ?_
      repeat (go_big_quiet_step (first | with_reducible exact A0.out _ _ | with_reducible exact A1.out _ _))
      refine wpQuiet_nil ?_
      rintro _ ⟨⟨dq, osq⟩, hw''⟩
      subst hw''
      have QB := below_regrown wr dq osq
      obtain ⟨W5, hW5⟩ : ∃ W, W = grow (redrawn wr dq) osq := ⟨_, rfl⟩
      rw [← hW5] at QB ⊢
      have S5 : Hid (OwnR kI (w.heap.size + 3) W5 (.slice ad m cap) d ∧ Below (w.heap.size + 3) W3 W5 ∧ w.heap.size + 3 ≤ W5.heap.size) := Lib.hid (by have q := R.out.2.2.2.2.2.2.size; rw [F3.out.1] at q; have b5 := R.out.2.2.2.2.2.2.trans (QB.mono q); have q5 := b5.size; rw [F3.out.1] at q5; exact ⟨R.out.2.2.2.2.2.1.below QB, b5, q5⟩)
      clear hW5 QB r0 r1 p0 p1
      go_wp2_with (at_builtin; refine app_rowB okI (gg := W5.heap.size) rfl _ _ rfl rfl S5.out.1 S5.out.2.2 r (by simp) rfl rfl LN.out ?_; intro v' w' h1 h2)
      obtain ⟨a2, c2, rfl⟩ := h1.slice
      have Z : Hid (OwnR kI (w.heap.size + 3) w' (.slice a2 (d ++ [r]).length c2) (d ++ [r]) ∧ Below (w.heap.size + 3) W3 w') := Lib.hid ⟨h1, S5.out.2.1.trans (grown_belowR h2 S5.out.1 S5.out.2.2)⟩
      clear h1 h2
      go_wp2_with fail
      go_roundg (M + 1 - (i + 1))
      case measure => have := R.out.1; omega
      case rel => exact ⟨i + 1, qt, d ++ [r], a2, _, c2, rfl, by omega, by go_num, by first | rfl | go_num, rfl, ORR.out, by omega, ST.out.2, by rw [List.length_append, R.out.2.2.2.1]; rfl, ST.out.1, Z.out.1, Z.out.2⟩
    · by_cases g2 : i < n'
      · have hiM : i ≤ M := by omega
        have ORR : Hid (i + 1 ≤ M ∨ qt = 0) := Lib.hid (Or.inl (by omega))
        have g1 : decide ((i : Int) < (n : Int)) = false := decide_eq_false (by omega)
        have g2 : decide ((i : Int) < (n' : Int)) = true := decide_eq_true (by omega)
        go_wp2_with fail
        refine wp_region_quiet_below (by kernel_rfl) (by kernel_rfl) ?_
        repeat (go_big_quiet_step (first | with_reducible exact A0.out _ _ | with_reducible exact A1.out _ _))
        refine wpQuiet_nil ?_
        rintro _ ⟨⟨dq, osq⟩, hw''⟩
        subst hw''
        have QB := below_regrown wr dq osq
        obtain ⟨W5, hW5⟩ : ∃ W, W = grow (redrawn wr dq) osq := ⟨_, rfl⟩
        rw [← hW5] at QB ⊢
        have S5 : Hid (OwnR kI (w.heap.size + 3) W5 (.slice ad m cap) d ∧ Below (w.heap.size + 3) W3 W5 ∧ w.heap.size + 3 ≤ W5.heap.size) := Lib.hid (by have q := R.out.2.2.2.2.2.2.size; rw [F3.out.1] at q; have b5 := R.out.2.2.2.2.2.2.trans (QB.mono q); have q5 := b5.size; rw [F3.out.1] at q5; exact ⟨R.out.2.2.2.2.2.1.below QB, b5, q5⟩)
        clear hW5 QB r0 r1 p0 p1
        go_wp2_with (at_builtin; refine app_rowB okI (gg := W5.heap.size) rfl _ _ rfl rfl S5.out.1 S5.out.2.2 r (by simp) rfl rfl LN.out ?_; intro v' w' h1 h2)
        obtain ⟨a2, c2, rfl⟩ := h1.slice
        have Z : Hid (OwnR kI (w.heap.size + 3) w' (.slice a2 (d ++ [r]).length c2) (d ++ [r]) ∧ Below (w.heap.size + 3) W3 w') := Lib.hid ⟨h1, S5.out.2.1.trans (grown_belowR h2 S5.out.1 S5.out.2.2)⟩
        clear h1 h2
        go_wp2_with fail
        go_roundg (M + 1 - (i + 1))
        case measure => have := R.out.1; omega
        case rel => exact ⟨i + 1, qt, d ++ [r], a2, _, c2, rfl, by omega, by go_num, by first | rfl | go_num, rfl, ORR.out, by omega, ST.out.2, by rw [List.length_append, R.out.2.2.2.1]; rfl, ST.out.1, Z.out.1, Z.out.2⟩
      · by_cases g3 : 0 < cr
        · have ORR : Hid (i + 1 ≤ M ∨ qt = 0) := Lib.hid (Or.inr (by
              have z1 : x = 0 := by rw [Q.out.1, List.getD_eq_getElem?_getD, List.getElem?_eq_none (by rw [← HN.out]; omega)]; rfl
              have z2 : y = 0 := by rw [Q.out.2.1, List.getD_eq_getElem?_getD, List.getElem?_eq_none (by rw [← HN'.out]; omega)]; rfl
              have := Q.out
              omega))
          have hiM : i ≤ M := R.out.2.1.elim id (fun q => by omega)
          have g1 : decide ((i : Int) < (n : Int)) = false := decide_eq_false (by omega)
          have g2 : decide ((i : Int) < (n' : Int)) = false := decide_eq_false (by omega)
          have g3 : decide ((cr : Int) > 0) = true := decide_eq_true (by omega)
          go_wp2_with fail
          refine wp_region_quiet_below (by kernel_rfl) (by kernel_rfl) ?_
          repeat (go_big_quiet_step (first | with_reducible exact A0.out _ _ | with_reducible exact A1.out _ _))
          refine wpQuiet_nil ?_
          rintro _ ⟨⟨dq, osq⟩, hw''⟩
          subst hw''
          have QB := below_regrown wr dq osq
          obtain ⟨W5, hW5⟩ : ∃ W, W = grow (redrawn wr dq) osq := ⟨_, rfl⟩
          rw [← hW5] at QB ⊢
          have S5 : Hid (OwnR kI (w.heap.size + 3) W5 (.slice ad m cap) d ∧ Below (w.heap.size + 3) W3 W5 ∧ w.heap.size + 3 ≤ W5.heap.size) := Lib.hid (by have q := R.out.2.2.2.2.2.2.size; rw [F3.out.1] at q; have b5 := R.out.2.2.2.2.2.2.trans (QB.mono q); have q5 := b5.size; rw [F3.out.1] at q5; exact ⟨R.out.2.2.2.2.2.1.below QB, b5, q5⟩)
          clear hW5 QB r0 r1 p0 p1
          go_wp2_with (at_builtin; refine app_rowB okI (gg := W5.heap.size) rfl _ _ rfl rfl S5.out.1 S5.out.2.2 r (by simp) rfl rfl LN.out ?_; intro v' w' h1 h2)
          obtain ⟨a2, c2, rfl⟩ := h1.slice
          have Z : Hid (OwnR kI (w.heap.size + 3) w' (.slice a2 (d ++ [r]).length c2) (d ++ [r]) ∧ Below (w.heap.size + 3) W3 w') := Lib.hid ⟨h1, S5.out.2.1.trans (grown_belowR h2 S5.out.1 S5.out.2.2)⟩
          clear h1 h2
          go_wp2_with fail
          go_roundg (M + 1 - (i + 1))
          case measure => have := R.out.1; omega
          case rel => exact ⟨i + 1, qt, d ++ [r], a2, _, c2, rfl, by omega, by go_num, by first | rfl | go_num, rfl, ORR.out, by omega, ST.out.2, by rw [List.length_append, R.out.2.2.2.1]; rfl, ST.out.1, Z.out.1, Z.out.2⟩
        · have cr0 : cr = 0 := by omega
          subst cr0
          have g1 : decide ((i : Int) < (n : Int)) = false := decide_eq_false (by omega)
          have g2 : decide ((i : Int) < (n' : Int)) = false := decide_eq_false (by omega)
          have EQ : Hid (vl d = p + q) := Lib.hid (by have q := R.out.2.2.2.2.1; rw [List.take_of_length_le (by rw [← HN.out]; omega), List.take_of_length_le (by rw [← HN'.out]; omega), DD.out.2.2.1, DD.out.2.2.2] at q; simpa using q)
          have CT := Lib.hid (cut_any (.slice ad m cap) d wr (R.out.2.2.2.2.2.1.row okI) R.out.2.2.1)
          rw [EQ.out] at CT
          go_wp2_with fail
          refine CT.out.mono ?_
          rintro e w6 ⟨a6, n6, c6, rfl, hr6, hb6⟩
          have B6 : Hid (Below (w.heap.size + 3) W3 w6) := Lib.hid (R.out.2.2.2.2.2.2.trans (hb6.mono (by have q := R.out.2.2.2.2.2.2.size; rw [F3.out.1] at q; exact q)))
          have R6 := Lib.hid hr6
          have H6 : Hid (w6.heap[w.heap.size + 1 + 1]? = some (.cells #[.slice none 0 0] 40 (0, 0))) := Lib.hid ((B6.out.block _ (by omega)).trans F3.out.2.2.2.2)
          have t6 := cell1 H6.out
          have f6 := frz H6.out 0
          clear hr6 hb6 p0 p1
          go_wp2_with fail
          refine bodyPost_ret (results_cell_row rfl _ _ (w.heap.size + 1 + 1) 40 #[_] (0, 0) _ rfl (set1 H6.out _) Tryd.underlying40 rfl size_long) rfl ?_
          have B7 : Below w.heap.size w (w6.setCell ⟨w.heap.size + 1 + 1, 0, none⟩ (.slice a6 n6 c6)) := (F3.out.2.1.trans (B6.out.mono (by omega))).setCell (show w.heap.size ≤ w.heap.size + 1 + 1 by omega) _
          refine ⟨a6, n6, c6, rfl, ?_, B7⟩
          exact row_set H6.out R6.out _
end Lg
end Go.Proofs.YtjegjpdeclgegaaDoor
