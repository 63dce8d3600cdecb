/-
  The document's Long: less, minus.
-/
import Derived.Test.YtjegjpdeclgegaaDoorLgB
namespace Go.Proofs.YtjegjpdeclgegaaDoor
open Go.RowKit Go.Lib
open Go.Sort (grow)
namespace Lg
set_option maxHeartbeats 8000000 in
set_option maxRecDepth 100000 in
theorem less_any (a a' : Option Addr) (n n' c c' : Nat) (p q : Nat) (w : World) (hv : Row kI w (.slice a n c) (dg p)) (hu : Row kI w (.slice a' n' c') (dg q)) (hn : n ≤ 1000) :
    Calls Tryd.prog 29 #[.agg #[.slice a n c], .agg #[.slice a' n' c']] w fun e w' => e = .returned (.bool (decide (p < q))) ∧ Below w.heap.size w w' := by
  have V := Lib.hid hv
  have U := Lib.hid hu
  have HN : Hid (n = (dg p).length) := Lib.hid (by obtain ⟨_, _, e, _⟩ := hv.len; simp only [Value.slice.injEq] at e; exact e.2.1)
  have HN' : Hid (n' = (dg q).length) := Lib.hid (by obtain ⟨_, _, e, _⟩ := hu.len; simp only [Value.slice.injEq] at e; exact e.2.1)
  obtain ⟨A, hA⟩ : ∃ A, A = dg p := ⟨_, rfl⟩
  obtain ⟨B, hB⟩ : ∃ B, B = dg q := ⟨_, rfl⟩
  rw [← hA] at V HN
  rw [← hB] at U HN'
  have DD : Hid (Dgs A ∧ Dgs B ∧ vl A = p ∧ vl B = q ∧ A = dg p ∧ B = dg q) := Lib.hid (by rw [hA, hB]; exact ⟨dgs_dg _, dgs_dg _, vl_dg _, vl_dg _, rfl, rfl⟩)
  obtain ⟨r, hr⟩ : ∃ r, r = decide (p < q) := ⟨_, rfl⟩
  rw [← hr]
  have HR := Lib.hid hr
  obtain ⟨W3, hW3⟩ : ∃ W, W = (w.alloc (.cells #[.slice a n c] 40)).alloc (.cells #[.slice a' n' c'] 40) := ⟨_, rfl⟩
  have F3 : Hid (W3.heap.size = w.heap.size + 2 ∧ Below w.heap.size w W3 ∧ W3.heap[w.heap.size]? = some (.cells #[.slice a n c] 40 (0, 0)) ∧ W3.heap[w.heap.size + 1]? = some (.cells #[.slice a' n' c'] 40 (0, 0))) := Lib.hid (by
    subst hW3
    refine ⟨by simp, (((Below.refl _ w).alloc (Nat.le_refl _) _).alloc (by simp) _), ?_, ?_⟩
    · rw [Below.heap_alloc _ _ _ (by simp), heap_alloc_new]
    · have q := heap_alloc_new (w.alloc (.cells #[.slice a n c] 40)) (.cells #[.slice a' n' c'] 40)
      simpa using q)
  have EW := Lib.hid hW3
  clear hW3
  clear hA hB hv hu hr
  by_cases hnn : n = n'
  · subst hnn
    go_enter Tryd.func29, Tryd.ntmps29
    go_wp2_with fail
    rw [← EW.out]
    clear EW
    go_loopg [5] n (fun g si wr => ∃ k : Nat, g = k ∧ k ≤ n ∧ si = .int .i64 ((k : Int) - 1) ∧ A.drop k = B.drop k ∧ Below (w.heap.size + 2) W3 wr)
    case atStart => exact ⟨n, rfl, Nat.le_refl _, by first | rfl | (congr 1; unfold wrap64; omega), by rw [List.drop_eq_nil_of_le (by rw [← HN.out]; exact Nat.le_refl _), List.drop_eq_nil_of_le (by rw [← HN'.out]; exact Nat.le_refl _)], Below.refl _ _⟩
    case round =>
      obtain ⟨k, hg, hk, rfl, hd, hb⟩ := hrel
      have R : Hid (gk = k ∧ A.drop k = B.drop k ∧ Below (w.heap.size + 2) W3 wr) := Lib.hid ⟨hg, hd, hb⟩
      clear hg hd hb
      have BW : Hid (Below w.heap.size w wr) := Lib.hid (F3.out.2.1.trans (R.out.2.2.mono (by omega)))
      rcases Nat.eq_zero_or_pos k with h0 | h0
      · subst h0
        have gz : decide (((0 : Nat) : Int) - 1 ≥ 0) = false := by decide
        have E : Hid (r = false) := Lib.hid (by
          rw [HR.out]
          have e : A = B := by have := R.out.2.1; simpa using this
          refine decide_eq_false ?_
          rw [← DD.out.2.2.1, ← DD.out.2.2.2.1, e]; omega)
        go_wp2_with fail
        go_ret
        exact ⟨by rw [E.out]; rfl, BW.out⟩
      · obtain ⟨i, rfl⟩ : ∃ i, k = i + 1 := ⟨k - 1, by omega⟩
        have ei : (((i + 1 : Nat) : Int) - 1) = (i : Int) := by omega
        rw [ei]
        clear ei
        have gi : decide ((i : Int) ≥ 0) = true := decide_eq_true (by omega)
        have hin : (i : Int) < (n : Int) := by omega
        obtain ⟨b, off, rfl, c0⟩ := Row.one (V.out.below BW.out) i (by rw [← HN.out]; omega)
        obtain ⟨b', off', rfl, c1⟩ := Row.one (U.out.below BW.out) i (by rw [← HN'.out]; omega)
        obtain ⟨x, hx⟩ : ∃ x, x = A.getD i 0 := ⟨_, rfl⟩
        obtain ⟨y, hy⟩ : ∃ y, y = B.getD i 0 := ⟨_, rfl⟩
        rw [← hx] at c0
        rw [← hy] at c1
        have Q : Hid (x = A.getD i 0 ∧ y = B.getD i 0) := Lib.hid ⟨hx, hy⟩
        have p0 := cell1 ((R.out.2.2.block _ (by omega)).trans F3.out.2.2.1)
        have p1 := cell1 ((R.out.2.2.block _ (by omega)).trans F3.out.2.2.2)
        have r0 : ∀ (dq : Nat) (os : Array Obj), (grow (redrawn wr dq) os).cell? ⟨w.heap.size, 0, none⟩ = some (.slice (some ⟨b, off, none⟩) n c) := fun dq os => cell_regrown p0 dq os
        have r1 : ∀ (dq : Nat) (os : Array Obj), (grow (redrawn wr dq) os).cell? ⟨w.heap.size + 1, 0, none⟩ = some (.slice (some ⟨b', off', none⟩) n c') := fun dq os => cell_regrown p1 dq os
        have r2 : ∀ (dq : Nat) (os : Array Obj), (grow (redrawn wr dq) os).cell? ⟨b, off + i, none⟩ = some (.int .i64 (x : Int)) := fun dq os => cell_regrown c0 dq os
        have r3 : ∀ (dq : Nat) (os : Array Obj), (grow (redrawn wr dq) os).cell? ⟨b', off' + i, none⟩ = some (.int .i64 (y : Int)) := fun dq os => cell_regrown c1 dq os
        clear hx hy
        by_cases hxy : x = y
        · have gx : ((x : Int) == (y : Int)) = true := by rw [beq_iff_eq]; omega
          have gx2 : ((x : Int) != (y : Int)) = false := by rw [bne_eq_false_iff_eq]; omega
          have HXY := Lib.hid hxy
          clear hxy
          go_wp2_with fail
          refine wp_region_quiet_below (by kernel_rfl) (by kernel_rfl) ?_
          repeat (go_big_quiet_step (fail))
          refine wpQuiet_nil ?_
          rintro _ ⟨⟨dq, osq⟩, hw''⟩
          subst hw''
          have QB := below_regrown wr dq osq
          obtain ⟨W5, hW5⟩ : ∃ W, W = grow (redrawn wr dq) osq := ⟨_, rfl⟩
          rw [← hW5] at QB ⊢
          have S5 : Hid (Below (w.heap.size + 2) W3 W5) := Lib.hid (R.out.2.2.trans (QB.mono (by have q := R.out.2.2.size; rw [F3.out.1] at q; exact q)))
          clear hW5 QB r0 r1 r2 r3 p0 p1 c0 c1
          go_wp2_with fail
          go_roundg i
          case measure => have := R.out.1; omega
          case rel => exact ⟨i, rfl, by omega, by first | rfl | (congr 1; unfold wrap64; omega), drop_eq_of (by rw [← HN.out, ← HN'.out]) i (by rw [← HN.out]; omega) R.out.2.1 (by rw [← Q.out.1, ← Q.out.2]; exact HXY.out), S5.out⟩
        · have gx : ((x : Int) == (y : Int)) = false := by rw [beq_eq_false_iff_ne]; omega
          have gx2 : ((x : Int) != (y : Int)) = true := by rw [bne_iff_ne]; omega
          have E : Hid (r = decide (x < y)) := Lib.hid (by
              rw [HR.out]
              rcases Nat.lt_or_gt_of_ne hxy with z | z
              · have := less_at DD.out.1 (by rw [← HN.out, ← HN'.out]) i (by rw [← HN.out]; omega) R.out.2.1 (by rw [← Q.out.1, ← Q.out.2]; exact z)
                rw [DD.out.2.2.1, DD.out.2.2.2.1] at this
                rw [decide_eq_true this, decide_eq_true z]
              · have := less_at DD.out.2.1 (by rw [← HN.out, ← HN'.out]) i (by rw [← HN'.out]; omega) R.out.2.1.symm (by rw [← Q.out.1, ← Q.out.2]; exact z)
                rw [DD.out.2.2.1, DD.out.2.2.2.1] at this
                rw [decide_eq_false (show ¬ p < q by omega), decide_eq_false (show ¬ x < y by omega)])
          clear hxy
          go_wp2_with fail
          refine wp_region_quiet_below (by kernel_rfl) (by kernel_rfl) ?_
          repeat (go_big_quiet_step (fail))
          refine wpQuiet_nil ?_
          rintro _ ⟨⟨dq, osq⟩, hw''⟩
          subst hw''
          have QB := below_regrown wr dq osq
          obtain ⟨W5, hW5⟩ : ∃ W, W = grow (redrawn wr dq) osq := ⟨_, rfl⟩
          rw [← hW5] at QB ⊢
          have S5 : Hid (Below (w.heap.size + 2) W3 W5 ∧ Below w.heap.size w W5) := Lib.hid ⟨R.out.2.2.trans (QB.mono (by have q := R.out.2.2.size; rw [F3.out.1] at q; exact q)), BW.out.trans (QB.mono BW.out.size)⟩
          have u0 := r0 dq osq
          have u1 := r1 dq osq
          have u2 := r2 dq osq
          have u3 := r3 dq osq
          rw [← hW5] at u0 u1 u2 u3
          have s0 : ∀ (dq : Nat) (os : Array Obj), (grow (redrawn W5 dq) os).cell? ⟨w.heap.size, 0, none⟩ = some (.slice (some ⟨b, off, none⟩) n c) := fun dq os => cell_regrown u0 dq os
          have s1 : ∀ (dq : Nat) (os : Array Obj), (grow (redrawn W5 dq) os).cell? ⟨w.heap.size + 1, 0, none⟩ = some (.slice (some ⟨b', off', none⟩) n c') := fun dq os => cell_regrown u1 dq os
          have s2 : ∀ (dq : Nat) (os : Array Obj), (grow (redrawn W5 dq) os).cell? ⟨b, off + i, none⟩ = some (.int .i64 (x : Int)) := fun dq os => cell_regrown u2 dq os
          have s3 : ∀ (dq : Nat) (os : Array Obj), (grow (redrawn W5 dq) os).cell? ⟨b', off' + i, none⟩ = some (.int .i64 (y : Int)) := fun dq os => cell_regrown u3 dq os
          clear hW5 QB r0 r1 r2 r3 p0 p1 c0 c1 u0 u1 u2 u3
          go_wp2_with fail
          refine wp_region_quiet_below (by kernel_rfl) (by kernel_rfl) ?_
          repeat (go_big_quiet_step (fail))
          refine wpQuiet_nil ?_
          rintro _ ⟨⟨d6, o6⟩, hw''⟩
          subst hw''
          have QB := below_regrown W5 d6 o6
          obtain ⟨W6, hW6⟩ : ∃ W, W = grow (redrawn W5 d6) o6 := ⟨_, rfl⟩
          rw [← hW6] at QB ⊢
          have S6 : Hid (Below w.heap.size w W6) := Lib.hid (S5.out.2.trans (QB.mono S5.out.2.size))
          clear hW6 QB s0 s1 s2 s3
          go_wp2_with fail
          go_ret
          exact ⟨by rw [E.out]; rfl, S6.out⟩
  · have g1 : ((n : Int) == (n' : Int)) = false := by rw [beq_eq_false_iff_ne]; omega
    have g2 : ((n : Int) != (n' : Int)) = true := by rw [bne_iff_ne]; omega
    have E : Hid (r = decide ((n : Int) < (n' : Int))) := Lib.hid (by
      rw [HR.out]
      rcases Nat.lt_or_gt_of_ne hnn with z | z
      · have := dg_len_eq (n := p) (m := q) (by rw [← DD.out.2.2.2.2.1, ← DD.out.2.2.2.2.2, ← HN.out, ← HN'.out]; exact z)
        rw [decide_eq_true this, decide_eq_true (show (n : Int) < n' by omega)]
      · have := dg_len_eq (n := q) (m := p) (by rw [← DD.out.2.2.2.2.1, ← DD.out.2.2.2.2.2, ← HN.out, ← HN'.out]; exact z)
        rw [decide_eq_false (show ¬ p < q by omega), decide_eq_false (show ¬ (n : Int) < n' by omega)])
    clear hnn
    go_enter Tryd.func29, Tryd.ntmps29
    go_wp2_with fail
    rw [← EW.out]
    go_ret
    exact ⟨by rw [E.out]; first | rfl | simp, F3.out.2.1⟩

theorem minus_step {A B d : List Nat} {i bo bo' x y r : Nat} (h' : vl d + vl (B.take i) = vl (A.take i) + 10 ^ i * bo) (hl : d.length = i) (hx : x = A.getD i 0) (hy : y = B.getD i 0) (hs : r + y + bo = x + 10 * bo') : vl (d ++ [r]) + vl (B.take (i + 1)) = vl (A.take (i + 1)) + 10 ^ (i + 1) * bo' := by
  rw [vl_snoc, hl, vl_take_succ', vl_take_succ', ← hx, ← hy, Nat.pow_succ]
  have e1 : 10 ^ i * r + 10 ^ i * y + 10 ^ i * bo = 10 ^ i * x + 10 ^ i * 10 * bo' := by
    rw [Nat.mul_assoc, ← Nat.mul_add, ← Nat.mul_add, ← Nat.mul_add, hs]
  omega
set_option maxHeartbeats 8000000 in
set_option maxRecDepth 100000 in
theorem minus_any (a a' : Option Addr) (n n' c c' : Nat) (p q : Nat) (w : World) (hv : Row kI w (.slice a n c) (dg p)) (hu : Row kI w (.slice a' n' c') (dg q)) (hn : n ≤ 1000) (hpq : q ≤ p) :
    Calls Tryd.prog 30 #[.agg #[.slice a n c], .agg #[.slice a' n' c']] w fun e w' => ∃ a n c, e = .returned (.agg #[.slice a n c]) ∧ Row kI w' (.slice a n c) (dg (p - q)) ∧ Fr w.heap.size a ∧ Below w.heap.size w w' := by
  have V := Lib.hid hv
  have U := Lib.hid hu
  have HN : Hid (n = (dg p).length) := Lib.hid (by obtain ⟨_, _, e, _⟩ := hv.len; simp only [Value.slice.injEq] at e; exact e.2.1)
  have HN' : Hid (n' = (dg q).length) := Lib.hid (by obtain ⟨_, _, e, _⟩ := hu.len; simp only [Value.slice.injEq] at e; exact e.2.1)
  obtain ⟨A, hA⟩ : ∃ A, A = dg p := ⟨_, rfl⟩
  obtain ⟨B, hB⟩ : ∃ B, B = dg q := ⟨_, rfl⟩
  rw [← hA] at V HN
  rw [← hB] at U HN'
  have DD : Hid (Dgs A ∧ Dgs B ∧ vl A = p ∧ vl B = q ∧ A = dg p ∧ B = dg q) := Lib.hid (by rw [hA, hB]; exact ⟨dgs_dg _, dgs_dg _, vl_dg _, vl_dg _, rfl, rfl⟩)
  have LE : Hid (n' ≤ n ∧ q ≤ p) := Lib.hid ⟨by
    rcases Nat.lt_or_ge n n' with z | z
    · have := dg_len_eq (n := p) (m := q) (by rw [← hA, ← hB, ← HN.out, ← HN'.out]; exact z)
      omega
    · exact z, hpq⟩
  obtain ⟨W3, hW3⟩ : ∃ W, W = ((w.alloc (.cells #[.slice a n c] 40)).alloc (.cells #[.slice a' n' c'] 40)).alloc (.cells #[.slice none 0 0] 40) := ⟨_, rfl⟩
  have F3 : Hid (W3.heap.size = w.heap.size + 3 ∧ Below w.heap.size w W3 ∧ W3.heap[w.heap.size]? = some (.cells #[.slice a n c] 40 (0, 0)) ∧ W3.heap[w.heap.size + 1]? = some (.cells #[.slice a' n' c'] 40 (0, 0)) ∧ W3.heap[w.heap.size + 1 + 1]? = some (.cells #[.slice none 0 0] 40 (0, 0))) := Lib.hid (by
    subst hW3
    refine ⟨by simp, (((Below.refl _ w).alloc (Nat.le_refl _) _).alloc (by simp) _).alloc (by simp; omega) _, ?_, ?_, ?_⟩
    · rw [Below.heap_alloc _ _ _ (by simp; omega), Below.heap_alloc _ _ _ (by simp), heap_alloc_new]
    · rw [Below.heap_alloc _ _ _ (by simp)]
      have q := heap_alloc_new (w.alloc (.cells #[.slice a n c] 40)) (.cells #[.slice a' n' c'] 40)
      simpa using q
    · have q := heap_alloc_new ((w.alloc (.cells #[.slice a n c] 40)).alloc (.cells #[.slice a' n' c'] 40)) (.cells #[.slice none 0 0] 40)
      simpa using q)
  have EW := Lib.hid hW3
  clear hW3
  clear hA hB hv hu hpq
  go_enter Tryd.func30, Tryd.ntmps30
  go_wp2_with fail
  rw [← EW.out]
  clear EW
  go_loopg [5, 6, 7] n (fun g sd sc si wr => ∃ (i bo : Nat) (d : List Nat) (ad : Option Addr) (m cap : Nat), g = n - i ∧ i ≤ n ∧ si = .int .i64 i ∧ sc = .int .i64 bo ∧ sd = .slice ad m cap ∧ bo ≤ 1 ∧ Dgs d ∧ d.length = i ∧ vl d + vl (B.take i) = vl (A.take i) + 10 ^ i * bo ∧ OwnR kI (w.heap.size + 3) wr (.slice ad m cap) d ∧ Below (w.heap.size + 3) W3 wr)
  case atStart => exact ⟨0, 0, [], none, 0, 0, rfl, by omega, rfl, rfl, rfl, by omega, (fun x hx => by cases hx), rfl, rfl, OwnR.nil _ _ _, Below.refl _ _⟩
  case round =>
    obtain ⟨i, bo, d, ad, m, cap, hg, hi, rfl, rfl, rfl, hbo, hD, hlen, hval, ho, hb⟩ := hrel
    have R : Hid (gk = n - i ∧ Dgs d ∧ d.length = i ∧ vl d + vl (B.take i) = vl (A.take i) + 10 ^ i * bo ∧ OwnR kI (w.heap.size + 3) wr (.slice ad m cap) d ∧ Below (w.heap.size + 3) W3 wr) := Lib.hid ⟨hg, hD, hlen, hval, ho, hb⟩
    clear hg hD hlen hval ho hb
    have BW : Hid (Below w.heap.size w wr) := Lib.hid (F3.out.2.1.trans (R.out.2.2.2.2.2.mono (by omega)))
    have p0 := cell1 ((R.out.2.2.2.2.2.block _ (by omega)).trans F3.out.2.2.1)
    have p1 := cell1 ((R.out.2.2.2.2.2.block _ (by omega)).trans F3.out.2.2.2.1)
    by_cases hlt : i < n
    · have hin : (i : Int) < (n : Int) := by omega
      obtain ⟨b, off, rfl, c0⟩ := Row.one (V.out.below BW.out) i (by rw [← HN.out]; omega)
      obtain ⟨x, hx⟩ : ∃ x, x = A.getD i 0 := ⟨_, rfl⟩
      obtain ⟨y, hy⟩ : ∃ y, y = B.getD i 0 := ⟨_, rfl⟩
      have hx9 : x < 10 := by rw [hx]; exact getD_lt DD.out.1 i
      have hy9 : y < 10 := by rw [hy]; exact getD_lt DD.out.2.1 i
      rw [← hx] at c0
      have Q : Hid (x = A.getD i 0 ∧ y = B.getD i 0) := Lib.hid ⟨hx, hy⟩
      have A1 := Lib.hid (at_q (U.out.below BW.out) i y hy)
      have r0 : ∀ (dq : Nat) (os : Array Obj), (grow (redrawn wr dq) os).cell? ⟨w.heap.size, 0, none⟩ = some (.slice (some ⟨b, off, none⟩) n c) := fun dq os => cell_regrown p0 dq os
      have r1 : ∀ (dq : Nat) (os : Array Obj), (grow (redrawn wr dq) os).cell? ⟨w.heap.size + 1, 0, none⟩ = some (.slice a' n' c') := fun dq os => cell_regrown p1 dq os
      have r2 : ∀ (dq : Nat) (os : Array Obj), (grow (redrawn wr dq) os).cell? ⟨b, off + i, none⟩ = some (.int .i64 (x : Int)) := fun dq os => cell_regrown c0 dq os
      have LN : Hid ((d.length + 1) * kI.b ≤ 140737488355328) := Lib.hid (by rw [R.out.2.2.1]; show (i + 1) * 8 ≤ _; omega)
      have e0 : IntKind.i64.wrap ((x : Int) - (y : Int)) = (x : Int) - (y : Int) := by simp [IntKind.wrap, IntKind.bits, IntKind.signed]; omega
      clear hx hy
      by_cases hs : y + bo ≤ x
      · obtain ⟨r, hr⟩ : ∃ r, r = x - (y + bo) := ⟨_, rfl⟩
        have e1 : IntKind.i64.wrap ((x : Int) - (y : Int) - (bo : Int)) = (r : Int) := by rw [hr]; simp [IntKind.wrap, IntKind.bits, IntKind.signed]; omega
        have g0 : decide ((r : Int) < 0) = false := decide_eq_false (by omega)
        have ST : Hid (vl (d ++ [r]) + vl (B.take (i + 1)) = vl (A.take (i + 1)) + 10 ^ (i + 1) * 0 ∧ Dgs (d ++ [r])) := Lib.hid ⟨minus_step R.out.2.2.2.1 R.out.2.2.1 Q.out.1 Q.out.2 (by omega), dgs_app R.out.2.1 (dgs_one (by omega))⟩
        clear hr hs
        go_wp2_with fail
        refine wp_region_quiet_below (by kernel_rfl) (by kernel_rfl) ?_
        repeat (go_big_quiet_step (first | with_reducible exact A1.out _ _))
        refine wpQuiet_nil ?_
        rintro _ ⟨⟨dq, osq⟩, hw''⟩
        subst hw''
        have QB := below_regrown wr dq osq
        obtain ⟨W5, hW5⟩ : ∃ W, W = grow (redrawn wr dq) osq := ⟨_, rfl⟩
        rw [← hW5] at QB ⊢
        have S5 : Hid (OwnR kI (w.heap.size + 3) W5 (.slice ad m cap) d ∧ Below (w.heap.size + 3) W3 W5 ∧ w.heap.size + 3 ≤ W5.heap.size) := Lib.hid (by have q := R.out.2.2.2.2.2.size; rw [F3.out.1] at q; have b5 := R.out.2.2.2.2.2.trans (QB.mono q); have q5 := b5.size; rw [F3.out.1] at q5; exact ⟨R.out.2.2.2.2.1.below QB, b5, q5⟩)
        clear hW5 QB r0 r1 r2 p0 p1 c0
        go_wp2_with (at_builtin; refine app_rowB okI (gg := W5.heap.size) rfl _ _ rfl rfl S5.out.1 S5.out.2.2 r (by simp) rfl rfl LN.out ?_; intro v' w' h1 h2)
        obtain ⟨a2, c2, rfl⟩ := h1.slice
        have Z : Hid (OwnR kI (w.heap.size + 3) w' (.slice a2 (d ++ [r]).length c2) (d ++ [r]) ∧ Below (w.heap.size + 3) W3 w') := Lib.hid ⟨h1, S5.out.2.1.trans (grown_belowR h2 S5.out.1 S5.out.2.2)⟩
        clear h1 h2
        go_wp2_with fail
        go_roundg (n - (i + 1))
        case measure => have := R.out.1; omega
        case rel => exact ⟨i + 1, 0, d ++ [r], a2, _, c2, rfl, by omega, by go_num, by first | rfl | go_num, rfl, by omega, ST.out.2, by rw [List.length_append, R.out.2.2.1]; rfl, ST.out.1, Z.out.1, Z.out.2⟩
      · obtain ⟨r, hr⟩ : ∃ r, r = x + 10 - (y + bo) := ⟨_, rfl⟩
        obtain ⟨z, hz⟩ : ∃ z : Int, z = (x : Int) - (y : Int) - (bo : Int) := ⟨_, rfl⟩
        have e1 : IntKind.i64.wrap ((x : Int) - (y : Int) - (bo : Int)) = z := by rw [hz]; simp [IntKind.wrap, IntKind.bits, IntKind.signed]; omega
        have g0 : decide (z < 0) = true := decide_eq_true (by omega)
        have e2 : wrap64 (z + 10) = (r : Int) := by rw [hz, hr]; unfold wrap64; omega
        have ST : Hid (vl (d ++ [r]) + vl (B.take (i + 1)) = vl (A.take (i + 1)) + 10 ^ (i + 1) * 1 ∧ Dgs (d ++ [r])) := Lib.hid ⟨minus_step R.out.2.2.2.1 R.out.2.2.1 Q.out.1 Q.out.2 (by omega), dgs_app R.out.2.1 (dgs_one (by omega))⟩
        clear hr hs hz
        go_wp2_with fail
        refine wp_region_quiet_below (by kernel_rfl) (by kernel_rfl) ?_
        repeat (go_big_quiet_step (first | with_reducible exact A1.out _ _))
        refine wpQuiet_nil ?_
        rintro _ ⟨⟨dq, osq⟩, hw''⟩
        subst hw''
        have QB := below_regrown wr dq osq
        obtain ⟨W5, hW5⟩ : ∃ W, W = grow (redrawn wr dq) osq := ⟨_, rfl⟩
        rw [← hW5] at QB ⊢
        have S5 : Hid (OwnR kI (w.heap.size + 3) W5 (.slice ad m cap) d ∧ Below (w.heap.size + 3) W3 W5 ∧ w.heap.size + 3 ≤ W5.heap.size) := Lib.hid (by have q := R.out.2.2.2.2.2.size; rw [F3.out.1] at q; have b5 := R.out.2.2.2.2.2.trans (QB.mono q); have q5 := b5.size; rw [F3.out.1] at q5; exact ⟨R.out.2.2.2.2.1.below QB, b5, q5⟩)
        clear hW5 QB r0 r1 r2 p0 p1 c0
        go_wp2_with (at_builtin; refine app_rowB okI (gg := W5.heap.size) rfl _ _ rfl rfl S5.out.1 S5.out.2.2 r (by simp) rfl rfl LN.out ?_; intro v' w' h1 h2)
        obtain ⟨a2, c2, rfl⟩ := h1.slice
        have Z : Hid (OwnR kI (w.heap.size + 3) w' (.slice a2 (d ++ [r]).length c2) (d ++ [r]) ∧ Below (w.heap.size + 3) W3 w') := Lib.hid ⟨h1, S5.out.2.1.trans (grown_belowR h2 S5.out.1 S5.out.2.2)⟩
        clear h1 h2
        go_wp2_with fail
        go_roundg (n - (i + 1))
        case measure => have := R.out.1; omega
        case rel => exact ⟨i + 1, 1, d ++ [r], a2, _, c2, rfl, by omega, by go_num, by first | rfl | go_num, rfl, by omega, ST.out.2, by rw [List.length_append, R.out.2.2.1]; rfl, ST.out.1, Z.out.1, Z.out.2⟩
    · have hin : ¬ (i : Int) < (n : Int) := by omega
      have EQ : Hid (vl d = p - q) := Lib.hid (by
        have q1 := R.out.2.2.2.1
        rw [List.take_of_length_le (l := A) (by rw [← HN.out]; omega), List.take_of_length_le (l := B) (by rw [← HN'.out]; have := LE.out; omega), DD.out.2.2.1, DD.out.2.2.2.1] at q1
        have q2 := vl_lt R.out.2.1
        rw [R.out.2.2.1] at q2
        have q3 := LE.out.2
        have q4 : bo = 0 ∨ bo = 1 := by omega
        rcases q4 with e | e
        · rw [e] at q1; omega
        · rw [e] at q1; omega)
      have CT := Lib.hid (cut_at ad m cap d wr (R.out.2.2.2.2.1.row okI) R.out.2.1)
      have FR : Hid (Fr w.heap.size ad) := Lib.hid ((own_fr R.out.2.2.2.2.1).mono (by omega))
      rw [EQ.out] at CT
      go_wp2_with fail
      refine CT.out.mono ?_
      rintro e w6 ⟨n6, c6, rfl, hr6, hb6⟩
      have B6 : Hid (Below (w.heap.size + 3) W3 w6) := Lib.hid (R.out.2.2.2.2.2.trans (hb6.mono (by have q := R.out.2.2.2.2.2.size; rw [F3.out.1] at q; exact q)))
      have R6 := Lib.hid hr6
      have H6 : Hid (w6.heap[w.heap.size + 1 + 1]? = some (.cells #[.slice none 0 0] 40 (0, 0))) := Lib.hid ((B6.out.block _ (by omega)).trans F3.out.2.2.2.2)
      have t6 := cell1 H6.out
      have f6 := frz H6.out 0
      clear hr6 hb6 p0 p1
      go_wp2_with fail
      refine bodyPost_ret (results_cell_row rfl _ _ (w.heap.size + 1 + 1) 40 #[_] (0, 0) _ rfl (set1 H6.out _) Tryd.underlying40 rfl size_long) rfl ?_
      have B7 : Below w.heap.size w (w6.setCell ⟨w.heap.size + 1 + 1, 0, none⟩ (.slice ad n6 c6)) := (F3.out.2.1.trans (B6.out.mono (by omega))).setCell (show w.heap.size ≤ w.heap.size + 1 + 1 by omega) _
      exact ⟨ad, n6, c6, rfl, row_set H6.out R6.out _, FR.out, B7⟩
end Lg
end Go.Proofs.YtjegjpdeclgegaaDoor
