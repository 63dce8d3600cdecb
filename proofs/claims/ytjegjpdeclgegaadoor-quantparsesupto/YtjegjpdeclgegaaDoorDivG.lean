/-
  Div64 with a high part.
-/
import Derived.Test.YtjegjpdeclgegaaDoorDivS
namespace Go.Proofs.YtjegjpdeclgegaaDoor
open Go.RowKit Go.Lib
set_option maxHeartbeats 16000000 in
set_option maxRecDepth 100000 in
theorem div_high (hi lo y Q R : Nat) (h0 : 0 < hi) (hy : hi < y) (hy2 : y < 18446744073709551616) (hl : lo < 18446744073709551616) (hQ : Q = (hi * 18446744073709551616 + lo) / y) (hR : R = (hi * 18446744073709551616 + lo) % y) (w : World) :
    Calls Tryd.prog 34 #[.int .u64 hi, .int .u64 lo, .int .u64 y] w fun e w' => e = .returned (.tuple #[.int .u64 Q, .int .u64 R]) ∧ Below w.heap.size w w' := by
  have P : Aside (Q = (hi * 18446744073709551616 + lo) / y ∧ R = (hi * 18446744073709551616 + lo) % y ∧ 0 < hi ∧ hi < y ∧ y < 18446744073709551616 ∧ lo < 18446744073709551616) := ⟨hQ, hR, h0, hy, hy2, hl⟩
  have a1 : ¬ (y : Int) = 0 := by omega
  have a2 : ¬ (y : Int) ≤ (hi : Int) := by omega
  have a3 : ¬ (hi : Int) = 0 := by omega
  clear hQ hR h0 hy hy2 hl
  go_enter Tryd.func34, Tryd.ntmps34
  go_wp2_with fail
  refine (Tryd.bits_LeadingZeros64 y w (by omega) (by have := P.out.2.2.2.2.1; omega)).mono ?_
  rintro e w1 ⟨rfl, rfl⟩
  obtain ⟨z, hz, zl, zy, zy2⟩ := lz_spec y (by omega) P.out.2.2.2.2.1
  rw [← hz]
  obtain ⟨Y, y1, y0, H, u, l, a, b, N, e1, e2, e3, e4, e5, e6, e7, e8⟩ := norm hi lo y z P.out.2.2.2.1 zl zy zy2 P.out.2.2.2.2.2
  have ZN : Aside (z < 64 ∧ Norm hi lo y z Y y1 y0 u a b) := ⟨zl, N⟩
  obtain ⟨q, hq⟩ : ∃ q, q = u / y1 := ⟨_, rfl⟩
  obtain ⟨r, hr⟩ : ∃ r, r = u % y1 := ⟨_, rfl⟩
  obtain ⟨p, hp⟩ : ∃ p, p = q * y1 := ⟨_, rfl⟩
  have hpr : p + r = u := by rw [hp, hq, hr, Nat.mul_comm]; exact Nat.div_add_mod u y1
  have F : Aside (q * y1 + r = u ∧ r < y1 ∧ q = u / y1) := ⟨by rw [← hp]; exact hpr, by rw [hr]; exact Nat.mod_lt _ (by have := N.h1; omega), hq⟩
  have ul : u < 18446744073709551616 := Nat.lt_trans N.hu N.hY2
  have q2 : q ≤ u := by rw [hq]; exact Nat.div_le_self _ _
  have f1 : (u : Int) / (y1 : Int) = (q : Int) := by rw [hq]; push_cast; rfl
  have f2 : (u : Int).tdiv (y1 : Int) = (q : Int) := by rw [Int.tdiv_eq_ediv_of_nonneg (by omega)]; exact f1
  have f3 : (q : Int) * (y1 : Int) = (p : Int) := by rw [hp]; push_cast; rfl
  have f4 : (u : Int) - (p : Int) = (r : Int) := by omega
  have f5 : (u : Int) < 18446744073709551616 := by omega
  have f6 : (q : Int) < 18446744073709551616 := by omega
  have f7 : (p : Int) < 18446744073709551616 := by omega
  have f8 : (r : Int) < 18446744073709551616 := by omega
  have g0 : ¬ (y1 : Int) = 0 := by have := N.h1; omega
  have z1 : (z : Int) < 64 := by omega
  have z2 : ¬ (z : Int) < 0 := by omega
  have z3 : (0 : Int) ≤ 64 - (z : Int) := by omega
  clear hz zl zy zy2 hq hr hp hpr N ul q2
  go_wp2_with fail
  have n := ZN.out.2
  have Yp : 0 < Y := by have := n.hu; omega
  obtain ⟨D, hD⟩ : ∃ D, D = (u * 4294967296 + a) / Y := ⟨_, rfl⟩
  obtain ⟨v, hv⟩ : ∃ v, v = (u * 4294967296 + a) % Y := ⟨_, rfl⟩
  obtain ⟨E, hE⟩ : ∃ E, E = (v * 4294967296 + b) / Y := ⟨_, rfl⟩
  have vY : v < Y := by rw [hv]; exact Nat.mod_lt _ Yp
  obtain ⟨m1, m2, m3, s1, s2, s3, s4⟩ := rest_of (u := u) (a := a) n.hY2 Yp hD
  rw [← hv] at s4
  obtain ⟨n1, n2, n3, x1, x2, x3, x4⟩ := rest_of (u := v) (a := b) n.hY2 Yp hE
  obtain ⟨wQ, wR⟩ := whole n (by omega) P.out.1 P.out.2.1 hD hv hE
  obtain ⟨x, hx⟩ : ∃ x, x = (v * 4294967296 + b) % Y := ⟨_, rfl⟩
  rw [← hx] at x4 wR
  have xl : x < 18446744073709551616 := by rw [hx]; exact Nat.lt_trans (Nat.mod_lt _ Yp) n.hY2
  obtain ⟨q2, r2, p2, c1, c2, c3, c4, c5, c6, c7, c8, c9, c10⟩ := guess (u := v) (y1 := y1) (by have := n.h1; omega) (Nat.lt_trans vY n.hY2)
  have DD : Aside (D = (u * 4294967296 + a) / (y1 * 4294967296 + y0)) := by rw [← n.hy]; exact hD
  have EE : Aside (E = (v * 4294967296 + b) / (y1 * 4294967296 + y0)) := by rw [← n.hy]; exact hE
  have DL : D < 4294967296 := by rw [hD]; exact Half.dig_lt n.hu n.ha
  have EL : E < 4294967296 := by rw [hE]; exact Half.dig_lt vY n.hb
  have T : Aside (IntKind.u64.wrap ((u : Int) * 4294967296) = (m1 : Int) ∧ IntKind.u64.wrap ((m1 : Int) + (a : Int)) = (m2 : Int) ∧ IntKind.u64.wrap ((D : Int) * (Y : Int)) = (m3 : Int) ∧ IntKind.u64.wrap ((m2 : Int) - (m3 : Int)) = (v : Int) ∧ (v : Int) / (y1 : Int) = (q2 : Int) ∧ (q2 : Int) * (y1 : Int) = (p2 : Int) ∧ (v : Int) - (p2 : Int) = (r2 : Int) ∧ (q2 : Int) < 18446744073709551616 ∧ (p2 : Int) < 18446744073709551616 ∧ (r2 : Int) < 18446744073709551616) := ⟨s1, s2, s3, s4, c4, c6, c7, c8, c9, c10⟩
  have T2 : Aside (q2 * y1 + r2 = v ∧ r2 < y1 ∧ q2 = v / y1 ∧ v < Y ∧ D < 4294967296 ∧ E < 4294967296) := ⟨c1, c2, c3, vY, DL, EL⟩
  have T3 : Aside (IntKind.u64.wrap ((v : Int) * 4294967296) = (n1 : Int) ∧ IntKind.u64.wrap ((n1 : Int) + (b : Int)) = (n2 : Int) ∧ IntKind.u64.wrap ((E : Int) * (Y : Int)) = (n3 : Int) ∧ IntKind.u64.wrap ((n2 : Int) - (n3 : Int)) = (x : Int) ∧ (x : Int) / 2 ^ z = (R : Int) ∧ (D : Int) * 4294967296 + (E : Int) = (Q : Int) ∧ (x : Int) < 18446744073709551616) := ⟨x1, x2, x3, x4, wR, by omega, by omega⟩
  clear hD hv hE vY s1 s2 s3 s4 x1 x2 x3 x4 wQ wR hx xl c1 c2 c3 c4 c5 c6 c7 c8 c9 c10 DL EL n Yp e1 e2 e3 e4 e5 e6 e7 e8 f1 f2 f3 f4 f6 f7 f8
  go_loopg [15, 16] q (fun g sq sr wr => ∃ (k t : Nat), g = k ∧ sq = .int .u64 k ∧ sr = .int .u64 t ∧ k * y1 + t = u ∧ D ≤ k ∧ k ≤ 4294967297 ∧ t < 4294967296 ∧ w1 = wr)
  case atStart =>
    have n := ZN.out.2
    refine ⟨q, r, rfl, rfl, rfl, F.out.1, ?_, ?_, by have := F.out.2.1; have := n.h1'; omega, rfl⟩
    · rw [DD.out, F.out.2.2]; exact Half.first_ge (by have := n.h1; omega) n.ha
    · rw [F.out.2.2]; exact Half.first_le (by have := n.h1; omega) (by omega) n.h0 (by rw [← n.hy]; exact n.hu)
  case round =>
    obtain ⟨k, t, hg, rfl, rfl, hkt, hDk, hk, ht, rfl⟩ := hrel
    have n := ZN.out.2
    have yp : 0 < y1 * 4294967296 + y0 := by have := n.h1; omega
    have DB : D < 4294967296 := by rw [DD.out]; exact Half.dig_lt (by rw [← n.hy]; exact n.hu) n.ha
    obtain ⟨m, hm⟩ : ∃ m, m = k * y0 := ⟨_, rfl⟩
    have hm' : (k : Int) * (y0 : Int) = (m : Int) := by rw [hm]; push_cast; rfl
    have ml : m < 18446744073709551616 := by
      have : k * y0 ≤ 4294967297 * 4294967295 := Nat.mul_le_mul hk (by have := n.h0; omega)
      omega
    have mi : (m : Int) < 18446744073709551616 := by omega
    have ai : (a : Int) < 4294967296 := by have := n.ha; omega
    have ti : (t : Int) < 4294967296 := by omega
    have yi : (y1 : Int) < 4294967296 := by have := n.h1'; omega
    by_cases hc : 4294967296 ≤ k ∨ 4294967296 * t + a < m
    · have Dlt : D < k := by
        rcases hc with hc | hc
        · omega
        · rw [DD.out]; exact Half.lt_of hkt yp (by rw [← hm]; exact hc)
      obtain ⟨j, hj⟩ : ∃ j, k = j + 1 := ⟨k - 1, by omega⟩
      have off := Half.off (hj ▸ hkt)
      have j0 : (1 : Int) ≤ (k : Int) := by omega
      have ki : (k : Int) < 18446744073709551616 := by omega
      obtain ⟨t', ht'⟩ : ∃ t', t' = t + y1 := ⟨_, rfl⟩
      have hti : (t : Int) + (y1 : Int) = (t' : Int) := by omega
      have tl : (t' : Int) < 18446744073709551616 := by omega
      rw [← ht'] at off
      have IN : Aside (gk = k ∧ k = j + 1 ∧ j * y1 + t' = u ∧ D ≤ j ∧ j ≤ 4294967296) := ⟨hg, hj, off, by omega, by omega⟩
      by_cases hb : 4294967296 ≤ t'
      · have hb' : (4294967296 : Int) ≤ (t' : Int) := by omega
        have jD : j = D := by
          have := Half.at_break off yp hb IN.out.2.2.2.2 n.h0 (a := a)
          rw [← DD.out] at this
          have := IN.out.2.2.2.1
          omega
        have jd : (k : Int) - 1 = (D : Int) := by omega
        by_cases hc3 : 4294967296 ≤ k
        · have hc' : (4294967296 : Int) ≤ (k : Int) := by omega
          have hc2 : decide ((4294967296 : Int) ≤ (k : Int)) = true := by rw [decide_eq_true_iff]; exact hc'
          clear hg hkt hDk hk ht hm ml n yp DB Dlt hj off ht' hc hb hc3 jD IN
          obtain ⟨s1, s2, s3, s4, c4, c6, c7, c8, c9, c10⟩ := T.out
          go_wp2_with fail
          clear s1 s2 s3 s4 c4 c6 c7 c8 c9 c10
          go_loopg [18, 16] q2 (fun g sq sr wr => ∃ (k t : Nat), g = k ∧ sq = .int .u64 k ∧ sr = .int .u64 t ∧ k * y1 + t = v ∧ E ≤ k ∧ k ≤ 4294967297 ∧ t < 4294967296 ∧ w1 = wr)
          case atStart =>
            have n := ZN.out.2
            refine ⟨q2, r2, rfl, rfl, rfl, T2.out.1, ?_, ?_, by have := T2.out.2.1; have := n.h1'; omega, rfl⟩
            · rw [EE.out, T2.out.2.2.1]; exact Half.first_ge (by have := n.h1; omega) n.hb
            · rw [T2.out.2.2.1]; exact Half.first_le (by have := n.h1; omega) (by omega) n.h0 (by rw [← n.hy]; exact T2.out.2.2.2.1)
          case round =>
            obtain ⟨k, t, hg, rfl, rfl, hkt, hDk, hk, ht, rfl⟩ := hrel
            have n := ZN.out.2
            have yp : 0 < y1 * 4294967296 + y0 := by have := n.h1; omega
            have DB : E < 4294967296 := by rw [EE.out]; exact Half.dig_lt (by rw [← n.hy]; exact T2.out.2.2.2.1) n.hb
            obtain ⟨m, hm⟩ : ∃ m, m = k * y0 := ⟨_, rfl⟩
            have hm' : (k : Int) * (y0 : Int) = (m : Int) := by rw [hm]; push_cast; rfl
            have ml : m < 18446744073709551616 := by
              have : k * y0 ≤ 4294967297 * 4294967295 := Nat.mul_le_mul hk (by have := n.h0; omega)
              omega
            have mi : (m : Int) < 18446744073709551616 := by omega
            have ai : (b : Int) < 4294967296 := by have := n.hb; omega
            have ti : (t : Int) < 4294967296 := by omega
            have yi : (y1 : Int) < 4294967296 := by have := n.h1'; omega
            by_cases hc : 4294967296 ≤ k ∨ 4294967296 * t + b < m
            · have Dlt : E < k := by
                rcases hc with hc | hc
                · omega
                · rw [EE.out]; exact Half.lt_of hkt yp (by rw [← hm]; exact hc)
              obtain ⟨j, hj⟩ : ∃ j, k = j + 1 := ⟨k - 1, by omega⟩
              have off := Half.off (hj ▸ hkt)
              have j0 : (1 : Int) ≤ (k : Int) := by omega
              have ki : (k : Int) < 18446744073709551616 := by omega
              obtain ⟨t', ht'⟩ : ∃ t', t' = t + y1 := ⟨_, rfl⟩
              have hti : (t : Int) + (y1 : Int) = (t' : Int) := by omega
              have tl : (t' : Int) < 18446744073709551616 := by omega
              rw [← ht'] at off
              have IN : Aside (gk = k ∧ k = j + 1 ∧ j * y1 + t' = v ∧ E ≤ j ∧ j ≤ 4294967296) := ⟨hg, hj, off, by omega, by omega⟩
              by_cases hb : 4294967296 ≤ t'
              · have hb' : (4294967296 : Int) ≤ (t' : Int) := by omega
                have jD : j = E := by
                  have := Half.at_break off yp hb IN.out.2.2.2.2 n.h0 (a := b)
                  rw [← EE.out] at this
                  have := IN.out.2.2.2.1
                  omega
                have jd : (k : Int) - 1 = (E : Int) := by omega
                by_cases hc3 : 4294967296 ≤ k
                · have hc' : (4294967296 : Int) ≤ (k : Int) := by omega
                  have hc2 : decide ((4294967296 : Int) ≤ (k : Int)) = true := by rw [decide_eq_true_iff]; exact hc'
                  clear hg hkt hDk hk ht hm ml n yp DB Dlt hj off ht' hc hb hc3 jD IN
                  obtain ⟨x1, x2, x3, x4, wR, wQ, xl⟩ := T3.out
                  have DL : (D : Int) < 4294967296 := by have := T2.out.2.2.2.2.1; omega
                  have EL : (E : Int) < 4294967296 := by have := T2.out.2.2.2.2.2; omega
                  go_wp2_with fail
                  go_ret2
                  exact ⟨rfl, ⟨rfl, rfl, rfl, Nat.le_refl _, fun _ _ => rfl⟩⟩
                · have hc' : ¬ (4294967296 : Int) ≤ (k : Int) := by omega
                  have hc2 : decide ((4294967296 : Int) ≤ (k : Int)) = false := by rw [decide_eq_false_iff_not]; exact hc'
                  have hc4 : (4294967296 : Int) * (t : Int) + (b : Int) < (m : Int) := by omega
                  have hc5 : (4294967296 : Int) * (t : Int) < 18446744073709551616 := by omega
                  have hc6 : (4294967296 : Int) * (t : Int) + (b : Int) < 18446744073709551616 := by omega
                  clear hg hkt hDk hk ht hm ml n yp DB Dlt hj off ht' hc hb hc3 jD IN
                  obtain ⟨x1, x2, x3, x4, wR, wQ, xl⟩ := T3.out
                  have DL : (D : Int) < 4294967296 := by have := T2.out.2.2.2.2.1; omega
                  have EL : (E : Int) < 4294967296 := by have := T2.out.2.2.2.2.2; omega
                  go_wp2_with fail
                  go_ret2
                  exact ⟨rfl, ⟨rfl, rfl, rfl, Nat.le_refl _, fun _ _ => rfl⟩⟩
              · have hb' : (t' : Int) < 4294967296 := by omega
                have hb2 : ¬ (4294967296 : Int) ≤ (t' : Int) := by omega
                have ji : (k : Int) - 1 = (j : Int) := by omega
                by_cases hc3 : 4294967296 ≤ k
                · have hc' : (4294967296 : Int) ≤ (k : Int) := by omega
                  have hc2 : decide ((4294967296 : Int) ≤ (k : Int)) = true := by rw [decide_eq_true_iff]; exact hc'
                  clear hg hkt hDk hk ht hm ml n yp DB Dlt hj off ht' hc hb hc3
                  go_wp2_with fail
                  go_roundg j
                  case measure => have := IN.out.1; have := IN.out.2.1; omega
                  case rel => exact ⟨j, t', rfl, rfl, rfl, IN.out.2.2.1, IN.out.2.2.2.1, by have := IN.out.2.2.2.2; omega, by omega, rfl⟩
                · have hc' : ¬ (4294967296 : Int) ≤ (k : Int) := by omega
                  have hc2 : decide ((4294967296 : Int) ≤ (k : Int)) = false := by rw [decide_eq_false_iff_not]; exact hc'
                  have hc4 : (4294967296 : Int) * (t : Int) + (b : Int) < (m : Int) := by omega
                  have hc5 : (4294967296 : Int) * (t : Int) < 18446744073709551616 := by omega
                  have hc6 : (4294967296 : Int) * (t : Int) + (b : Int) < 18446744073709551616 := by omega
                  clear hg hkt hDk hk ht hm ml n yp DB Dlt hj off ht' hc hb hc3
                  go_wp2_with fail
                  go_roundg j
                  case measure => have := IN.out.1; have := IN.out.2.1; omega
                  case rel => exact ⟨j, t', rfl, rfl, rfl, IN.out.2.2.1, IN.out.2.2.2.1, by have := IN.out.2.2.2.2; omega, by omega, rfl⟩
            · have hc1 : k < 4294967296 ∧ m ≤ 4294967296 * t + b := by omega
              have kD : E = k := by
                have := Half.le_of hkt yp (by rw [← hm]; exact hc1.2) (a := b)
                rw [← EE.out] at this
                omega
              subst kD
              have hc' : ¬ (4294967296 : Int) ≤ (E : Int) := by omega
              have hc2 : decide ((4294967296 : Int) ≤ (E : Int)) = false := by rw [decide_eq_false_iff_not]; exact hc'
              have hc4 : ¬ (4294967296 : Int) * (t : Int) + (b : Int) < (m : Int) := by omega
              have hc5 : (4294967296 : Int) * (t : Int) < 18446744073709551616 := by omega
              have hc6 : (4294967296 : Int) * (t : Int) + (b : Int) < 18446744073709551616 := by omega
              have hc7 : decide ((4294967296 : Int) * (t : Int) + (b : Int) < (m : Int)) = false := by rw [decide_eq_false_iff_not]; exact hc4
              clear hg hkt hDk hk ht hm ml n yp DB hc hc1
              obtain ⟨x1, x2, x3, x4, wR, wQ, xl⟩ := T3.out
              have DL : (D : Int) < 4294967296 := by have := T2.out.2.2.2.2.1; omega
              have EL : (E : Int) < 4294967296 := by have := T2.out.2.2.2.2.2; omega
              go_wp2_with fail
              go_ret2
              exact ⟨rfl, ⟨rfl, rfl, rfl, Nat.le_refl _, fun _ _ => rfl⟩⟩
        · have hc' : ¬ (4294967296 : Int) ≤ (k : Int) := by omega
          have hc2 : decide ((4294967296 : Int) ≤ (k : Int)) = false := by rw [decide_eq_false_iff_not]; exact hc'
          have hc4 : (4294967296 : Int) * (t : Int) + (a : Int) < (m : Int) := by omega
          have hc5 : (4294967296 : Int) * (t : Int) < 18446744073709551616 := by omega
          have hc6 : (4294967296 : Int) * (t : Int) + (a : Int) < 18446744073709551616 := by omega
          clear hg hkt hDk hk ht hm ml n yp DB Dlt hj off ht' hc hb hc3 jD IN
          obtain ⟨s1, s2, s3, s4, c4, c6, c7, c8, c9, c10⟩ := T.out
          go_wp2_with fail
          clear s1 s2 s3 s4 c4 c6 c7 c8 c9 c10
          go_loopg [18, 16] q2 (fun g sq sr wr => ∃ (k t : Nat), g = k ∧ sq = .int .u64 k ∧ sr = .int .u64 t ∧ k * y1 + t = v ∧ E ≤ k ∧ k ≤ 4294967297 ∧ t < 4294967296 ∧ w1 = wr)
          case atStart =>
            have n := ZN.out.2
            refine ⟨q2, r2, rfl, rfl, rfl, T2.out.1, ?_, ?_, by have := T2.out.2.1; have := n.h1'; omega, rfl⟩
            · rw [EE.out, T2.out.2.2.1]; exact Half.first_ge (by have := n.h1; omega) n.hb
            · rw [T2.out.2.2.1]; exact Half.first_le (by have := n.h1; omega) (by omega) n.h0 (by rw [← n.hy]; exact T2.out.2.2.2.1)
          case round =>
            obtain ⟨k, t, hg, rfl, rfl, hkt, hDk, hk, ht, rfl⟩ := hrel
            have n := ZN.out.2
            have yp : 0 < y1 * 4294967296 + y0 := by have := n.h1; omega
            have DB : E < 4294967296 := by rw [EE.out]; exact Half.dig_lt (by rw [← n.hy]; exact T2.out.2.2.2.1) n.hb
            obtain ⟨m, hm⟩ : ∃ m, m = k * y0 := ⟨_, rfl⟩
            have hm' : (k : Int) * (y0 : Int) = (m : Int) := by rw [hm]; push_cast; rfl
            have ml : m < 18446744073709551616 := by
              have : k * y0 ≤ 4294967297 * 4294967295 := Nat.mul_le_mul hk (by have := n.h0; omega)
              omega
            have mi : (m : Int) < 18446744073709551616 := by omega
            have ai : (b : Int) < 4294967296 := by have := n.hb; omega
            have ti : (t : Int) < 4294967296 := by omega
            have yi : (y1 : Int) < 4294967296 := by have := n.h1'; omega
            by_cases hc : 4294967296 ≤ k ∨ 4294967296 * t + b < m
            · have Dlt : E < k := by
                rcases hc with hc | hc
                · omega
                · rw [EE.out]; exact Half.lt_of hkt yp (by rw [← hm]; exact hc)
              obtain ⟨j, hj⟩ : ∃ j, k = j + 1 := ⟨k - 1, by omega⟩
              have off := Half.off (hj ▸ hkt)
              have j0 : (1 : Int) ≤ (k : Int) := by omega
              have ki : (k : Int) < 18446744073709551616 := by omega
              obtain ⟨t', ht'⟩ : ∃ t', t' = t + y1 := ⟨_, rfl⟩
              have hti : (t : Int) + (y1 : Int) = (t' : Int) := by omega
              have tl : (t' : Int) < 18446744073709551616 := by omega
              rw [← ht'] at off
              have IN : Aside (gk = k ∧ k = j + 1 ∧ j * y1 + t' = v ∧ E ≤ j ∧ j ≤ 4294967296) := ⟨hg, hj, off, by omega, by omega⟩
              by_cases hb : 4294967296 ≤ t'
              · have hb' : (4294967296 : Int) ≤ (t' : Int) := by omega
                have jD : j = E := by
                  have := Half.at_break off yp hb IN.out.2.2.2.2 n.h0 (a := b)
                  rw [← EE.out] at this
                  have := IN.out.2.2.2.1
                  omega
                have jd : (k : Int) - 1 = (E : Int) := by omega
                by_cases hc3 : 4294967296 ≤ k
                · have hc' : (4294967296 : Int) ≤ (k : Int) := by omega
                  have hc2 : decide ((4294967296 : Int) ≤ (k : Int)) = true := by rw [decide_eq_true_iff]; exact hc'
                  clear hg hkt hDk hk ht hm ml n yp DB Dlt hj off ht' hc hb hc3 jD IN
                  obtain ⟨x1, x2, x3, x4, wR, wQ, xl⟩ := T3.out
                  have DL : (D : Int) < 4294967296 := by have := T2.out.2.2.2.2.1; omega
                  have EL : (E : Int) < 4294967296 := by have := T2.out.2.2.2.2.2; omega
                  go_wp2_with fail
                  go_ret2
                  exact ⟨rfl, ⟨rfl, rfl, rfl, Nat.le_refl _, fun _ _ => rfl⟩⟩
                · have hc' : ¬ (4294967296 : Int) ≤ (k : Int) := by omega
                  have hc2 : decide ((4294967296 : Int) ≤ (k : Int)) = false := by rw [decide_eq_false_iff_not]; exact hc'
                  have hc4 : (4294967296 : Int) * (t : Int) + (b : Int) < (m : Int) := by omega
                  have hc5 : (4294967296 : Int) * (t : Int) < 18446744073709551616 := by omega
                  have hc6 : (4294967296 : Int) * (t : Int) + (b : Int) < 18446744073709551616 := by omega
                  clear hg hkt hDk hk ht hm ml n yp DB Dlt hj off ht' hc hb hc3 jD IN
                  obtain ⟨x1, x2, x3, x4, wR, wQ, xl⟩ := T3.out
                  have DL : (D : Int) < 4294967296 := by have := T2.out.2.2.2.2.1; omega
                  have EL : (E : Int) < 4294967296 := by have := T2.out.2.2.2.2.2; omega
                  go_wp2_with fail
                  go_ret2
                  exact ⟨rfl, ⟨rfl, rfl, rfl, Nat.le_refl _, fun _ _ => rfl⟩⟩
              · have hb' : (t' : Int) < 4294967296 := by omega
                have hb2 : ¬ (4294967296 : Int) ≤ (t' : Int) := by omega
                have ji : (k : Int) - 1 = (j : Int) := by omega
                by_cases hc3 : 4294967296 ≤ k
                · have hc' : (4294967296 : Int) ≤ (k : Int) := by omega
                  have hc2 : decide ((4294967296 : Int) ≤ (k : Int)) = true := by rw [decide_eq_true_iff]; exact hc'
                  clear hg hkt hDk hk ht hm ml n yp DB Dlt hj off ht' hc hb hc3
                  go_wp2_with fail
                  go_roundg j
                  case measure => have := IN.out.1; have := IN.out.2.1; omega
                  case rel => exact ⟨j, t', rfl, rfl, rfl, IN.out.2.2.1, IN.out.2.2.2.1, by have := IN.out.2.2.2.2; omega, by omega, rfl⟩
                · have hc' : ¬ (4294967296 : Int) ≤ (k : Int) := by omega
                  have hc2 : decide ((4294967296 : Int) ≤ (k : Int)) = false := by rw [decide_eq_false_iff_not]; exact hc'
                  have hc4 : (4294967296 : Int) * (t : Int) + (b : Int) < (m : Int) := by omega
                  have hc5 : (4294967296 : Int) * (t : Int) < 18446744073709551616 := by omega
                  have hc6 : (4294967296 : Int) * (t : Int) + (b : Int) < 18446744073709551616 := by omega
                  clear hg hkt hDk hk ht hm ml n yp DB Dlt hj off ht' hc hb hc3
                  go_wp2_with fail
                  go_roundg j
                  case measure => have := IN.out.1; have := IN.out.2.1; omega
                  case rel => exact ⟨j, t', rfl, rfl, rfl, IN.out.2.2.1, IN.out.2.2.2.1, by have := IN.out.2.2.2.2; omega, by omega, rfl⟩
            · have hc1 : k < 4294967296 ∧ m ≤ 4294967296 * t + b := by omega
              have kD : E = k := by
                have := Half.le_of hkt yp (by rw [← hm]; exact hc1.2) (a := b)
                rw [← EE.out] at this
                omega
              subst kD
              have hc' : ¬ (4294967296 : Int) ≤ (E : Int) := by omega
              have hc2 : decide ((4294967296 : Int) ≤ (E : Int)) = false := by rw [decide_eq_false_iff_not]; exact hc'
              have hc4 : ¬ (4294967296 : Int) * (t : Int) + (b : Int) < (m : Int) := by omega
              have hc5 : (4294967296 : Int) * (t : Int) < 18446744073709551616 := by omega
              have hc6 : (4294967296 : Int) * (t : Int) + (b : Int) < 18446744073709551616 := by omega
              have hc7 : decide ((4294967296 : Int) * (t : Int) + (b : Int) < (m : Int)) = false := by rw [decide_eq_false_iff_not]; exact hc4
              clear hg hkt hDk hk ht hm ml n yp DB hc hc1
              obtain ⟨x1, x2, x3, x4, wR, wQ, xl⟩ := T3.out
              have DL : (D : Int) < 4294967296 := by have := T2.out.2.2.2.2.1; omega
              have EL : (E : Int) < 4294967296 := by have := T2.out.2.2.2.2.2; omega
              go_wp2_with fail
              go_ret2
              exact ⟨rfl, ⟨rfl, rfl, rfl, Nat.le_refl _, fun _ _ => rfl⟩⟩
      · have hb' : (t' : Int) < 4294967296 := by omega
        have hb2 : ¬ (4294967296 : Int) ≤ (t' : Int) := by omega
        have ji : (k : Int) - 1 = (j : Int) := by omega
        by_cases hc3 : 4294967296 ≤ k
        · have hc' : (4294967296 : Int) ≤ (k : Int) := by omega
          have hc2 : decide ((4294967296 : Int) ≤ (k : Int)) = true := by rw [decide_eq_true_iff]; exact hc'
          clear hg hkt hDk hk ht hm ml n yp DB Dlt hj off ht' hc hb hc3
          go_wp2_with fail
          go_roundg j
          case measure => have := IN.out.1; have := IN.out.2.1; omega
          case rel => exact ⟨j, t', rfl, rfl, rfl, IN.out.2.2.1, IN.out.2.2.2.1, by have := IN.out.2.2.2.2; omega, by omega, rfl⟩
        · have hc' : ¬ (4294967296 : Int) ≤ (k : Int) := by omega
          have hc2 : decide ((4294967296 : Int) ≤ (k : Int)) = false := by rw [decide_eq_false_iff_not]; exact hc'
          have hc4 : (4294967296 : Int) * (t : Int) + (a : Int) < (m : Int) := by omega
          have hc5 : (4294967296 : Int) * (t : Int) < 18446744073709551616 := by omega
          have hc6 : (4294967296 : Int) * (t : Int) + (a : Int) < 18446744073709551616 := by omega
          clear hg hkt hDk hk ht hm ml n yp DB Dlt hj off ht' hc hb hc3
          go_wp2_with fail
          go_roundg j
          case measure => have := IN.out.1; have := IN.out.2.1; omega
          case rel => exact ⟨j, t', rfl, rfl, rfl, IN.out.2.2.1, IN.out.2.2.2.1, by have := IN.out.2.2.2.2; omega, by omega, rfl⟩
    · have hc1 : k < 4294967296 ∧ m ≤ 4294967296 * t + a := by omega
      have kD : D = k := by
        have := Half.le_of hkt yp (by rw [← hm]; exact hc1.2) (a := a)
        rw [← DD.out] at this
        omega
      subst kD
      have hc' : ¬ (4294967296 : Int) ≤ (D : Int) := by omega
      have hc2 : decide ((4294967296 : Int) ≤ (D : Int)) = false := by rw [decide_eq_false_iff_not]; exact hc'
      have hc4 : ¬ (4294967296 : Int) * (t : Int) + (a : Int) < (m : Int) := by omega
      have hc5 : (4294967296 : Int) * (t : Int) < 18446744073709551616 := by omega
      have hc6 : (4294967296 : Int) * (t : Int) + (a : Int) < 18446744073709551616 := by omega
      have hc7 : decide ((4294967296 : Int) * (t : Int) + (a : Int) < (m : Int)) = false := by rw [decide_eq_false_iff_not]; exact hc4
      clear hg hkt hDk hk ht hm ml n yp DB hc hc1
      obtain ⟨s1, s2, s3, s4, c4, c6, c7, c8, c9, c10⟩ := T.out
      go_wp2_with fail
      clear s1 s2 s3 s4 c4 c6 c7 c8 c9 c10
      go_loopg [18, 16] q2 (fun g sq sr wr => ∃ (k t : Nat), g = k ∧ sq = .int .u64 k ∧ sr = .int .u64 t ∧ k * y1 + t = v ∧ E ≤ k ∧ k ≤ 4294967297 ∧ t < 4294967296 ∧ w1 = wr)
      case atStart =>
        have n := ZN.out.2
        refine ⟨q2, r2, rfl, rfl, rfl, T2.out.1, ?_, ?_, by have := T2.out.2.1; have := n.h1'; omega, rfl⟩
        · rw [EE.out, T2.out.2.2.1]; exact Half.first_ge (by have := n.h1; omega) n.hb
        · rw [T2.out.2.2.1]; exact Half.first_le (by have := n.h1; omega) (by omega) n.h0 (by rw [← n.hy]; exact T2.out.2.2.2.1)
      case round =>
        obtain ⟨k, t, hg, rfl, rfl, hkt, hDk, hk, ht, rfl⟩ := hrel
        have n := ZN.out.2
        have yp : 0 < y1 * 4294967296 + y0 := by have := n.h1; omega
        have DB : E < 4294967296 := by rw [EE.out]; exact Half.dig_lt (by rw [← n.hy]; exact T2.out.2.2.2.1) n.hb
        obtain ⟨m, hm⟩ : ∃ m, m = k * y0 := ⟨_, rfl⟩
        have hm' : (k : Int) * (y0 : Int) = (m : Int) := by rw [hm]; push_cast; rfl
        have ml : m < 18446744073709551616 := by
          have : k * y0 ≤ 4294967297 * 4294967295 := Nat.mul_le_mul hk (by have := n.h0; omega)
          omega
        have mi : (m : Int) < 18446744073709551616 := by omega
        have ai : (b : Int) < 4294967296 := by have := n.hb; omega
        have ti : (t : Int) < 4294967296 := by omega
        have yi : (y1 : Int) < 4294967296 := by have := n.h1'; omega
        by_cases hc : 4294967296 ≤ k ∨ 4294967296 * t + b < m
        · have Dlt : E < k := by
            rcases hc with hc | hc
            · omega
            · rw [EE.out]; exact Half.lt_of hkt yp (by rw [← hm]; exact hc)
          obtain ⟨j, hj⟩ : ∃ j, k = j + 1 := ⟨k - 1, by omega⟩
          have off := Half.off (hj ▸ hkt)
          have j0 : (1 : Int) ≤ (k : Int) := by omega
          have ki : (k : Int) < 18446744073709551616 := by omega
          obtain ⟨t', ht'⟩ : ∃ t', t' = t + y1 := ⟨_, rfl⟩
          have hti : (t : Int) + (y1 : Int) = (t' : Int) := by omega
          have tl : (t' : Int) < 18446744073709551616 := by omega
          rw [← ht'] at off
          have IN : Aside (gk = k ∧ k = j + 1 ∧ j * y1 + t' = v ∧ E ≤ j ∧ j ≤ 4294967296) := ⟨hg, hj, off, by omega, by omega⟩
          by_cases hb : 4294967296 ≤ t'
          · have hb' : (4294967296 : Int) ≤ (t' : Int) := by omega
            have jD : j = E := by
              have := Half.at_break off yp hb IN.out.2.2.2.2 n.h0 (a := b)
              rw [← EE.out] at this
              have := IN.out.2.2.2.1
              omega
            have jd : (k : Int) - 1 = (E : Int) := by omega
            by_cases hc3 : 4294967296 ≤ k
            · have hc' : (4294967296 : Int) ≤ (k : Int) := by omega
              have hc2 : decide ((4294967296 : Int) ≤ (k : Int)) = true := by rw [decide_eq_true_iff]; exact hc'
              clear hg hkt hDk hk ht hm ml n yp DB Dlt hj off ht' hc hb hc3 jD IN
              obtain ⟨x1, x2, x3, x4, wR, wQ, xl⟩ := T3.out
              have DL : (D : Int) < 4294967296 := by have := T2.out.2.2.2.2.1; omega
              have EL : (E : Int) < 4294967296 := by have := T2.out.2.2.2.2.2; omega
              go_wp2_with fail
              go_ret2
              exact ⟨rfl, ⟨rfl, rfl, rfl, Nat.le_refl _, fun _ _ => rfl⟩⟩
            · have hc' : ¬ (4294967296 : Int) ≤ (k : Int) := by omega
              have hc2 : decide ((4294967296 : Int) ≤ (k : Int)) = false := by rw [decide_eq_false_iff_not]; exact hc'
              have hc4 : (4294967296 : Int) * (t : Int) + (b : Int) < (m : Int) := by omega
              have hc5 : (4294967296 : Int) * (t : Int) < 18446744073709551616 := by omega
              have hc6 : (4294967296 : Int) * (t : Int) + (b : Int) < 18446744073709551616 := by omega
              clear hg hkt hDk hk ht hm ml n yp DB Dlt hj off ht' hc hb hc3 jD IN
              obtain ⟨x1, x2, x3, x4, wR, wQ, xl⟩ := T3.out
              have DL : (D : Int) < 4294967296 := by have := T2.out.2.2.2.2.1; omega
              have EL : (E : Int) < 4294967296 := by have := T2.out.2.2.2.2.2; omega
              go_wp2_with fail
              go_ret2
              exact ⟨rfl, ⟨rfl, rfl, rfl, Nat.le_refl _, fun _ _ => rfl⟩⟩
          · have hb' : (t' : Int) < 4294967296 := by omega
            have hb2 : ¬ (4294967296 : Int) ≤ (t' : Int) := by omega
            have ji : (k : Int) - 1 = (j : Int) := by omega
            by_cases hc3 : 4294967296 ≤ k
            · have hc' : (4294967296 : Int) ≤ (k : Int) := by omega
              have hc2 : decide ((4294967296 : Int) ≤ (k : Int)) = true := by rw [decide_eq_true_iff]; exact hc'
              clear hg hkt hDk hk ht hm ml n yp DB Dlt hj off ht' hc hb hc3
              go_wp2_with fail
              go_roundg j
              case measure => have := IN.out.1; have := IN.out.2.1; omega
              case rel => exact ⟨j, t', rfl, rfl, rfl, IN.out.2.2.1, IN.out.2.2.2.1, by have := IN.out.2.2.2.2; omega, by omega, rfl⟩
            · have hc' : ¬ (4294967296 : Int) ≤ (k : Int) := by omega
              have hc2 : decide ((4294967296 : Int) ≤ (k : Int)) = false := by rw [decide_eq_false_iff_not]; exact hc'
              have hc4 : (4294967296 : Int) * (t : Int) + (b : Int) < (m : Int) := by omega
              have hc5 : (4294967296 : Int) * (t : Int) < 18446744073709551616 := by omega
              have hc6 : (4294967296 : Int) * (t : Int) + (b : Int) < 18446744073709551616 := by omega
              clear hg hkt hDk hk ht hm ml n yp DB Dlt hj off ht' hc hb hc3
              go_wp2_with fail
              go_roundg j
              case measure => have := IN.out.1; have := IN.out.2.1; omega
              case rel => exact ⟨j, t', rfl, rfl, rfl, IN.out.2.2.1, IN.out.2.2.2.1, by have := IN.out.2.2.2.2; omega, by omega, rfl⟩
        · have hc1 : k < 4294967296 ∧ m ≤ 4294967296 * t + b := by omega
          have kD : E = k := by
            have := Half.le_of hkt yp (by rw [← hm]; exact hc1.2) (a := b)
            rw [← EE.out] at this
            omega
          subst kD
          have hc' : ¬ (4294967296 : Int) ≤ (E : Int) := by omega
          have hc2 : decide ((4294967296 : Int) ≤ (E : Int)) = false := by rw [decide_eq_false_iff_not]; exact hc'
          have hc4 : ¬ (4294967296 : Int) * (t : Int) + (b : Int) < (m : Int) := by omega
          have hc5 : (4294967296 : Int) * (t : Int) < 18446744073709551616 := by omega
          have hc6 : (4294967296 : Int) * (t : Int) + (b : Int) < 18446744073709551616 := by omega
          have hc7 : decide ((4294967296 : Int) * (t : Int) + (b : Int) < (m : Int)) = false := by rw [decide_eq_false_iff_not]; exact hc4
          clear hg hkt hDk hk ht hm ml n yp DB hc hc1
          obtain ⟨x1, x2, x3, x4, wR, wQ, xl⟩ := T3.out
          have DL : (D : Int) < 4294967296 := by have := T2.out.2.2.2.2.1; omega
          have EL : (E : Int) < 4294967296 := by have := T2.out.2.2.2.2.2; omega
          go_wp2_with fail
          go_ret2
          exact ⟨rfl, ⟨rfl, rfl, rfl, Nat.le_refl _, fun _ _ => rfl⟩⟩
end Go.Proofs.YtjegjpdeclgegaaDoor
