/-
  WatchKeeps.
-/
import Derived.Test.YtoocpbpdoaplgaaDoorWtM
import Derived.Test.YtoocpbpdoaplgaaDoorWtN
namespace Go.Proofs.YtoocpbpdoaplgaaDoor
open Go.RowKit
namespace Wt
theorem under_root {e : Ev} (h : rightB e = true) : L.underB e.p ⟨#[47]⟩ = true := by
  unfold rightB at h
  simp only [Bool.and_eq_true, decide_eq_true_eq] at h
  obtain ⟨-, -, h1, -⟩ := h
  cases hs : L.splitO e.p with
  | none => rw [L.splitE_none hs] at h1; cases h1
  | some ts =>
    obtain ⟨us, hu⟩ : ∃ us, L.splitO ⟨#[47]⟩ = some us := by
      cases hr : L.splitO ⟨#[47]⟩ with
      | none => have : L.splitE ⟨#[47]⟩ = 0 := by kernel_rfl
                rw [L.splitE_none hr] at this; cases this
      | some us => exact ⟨us, rfl⟩
    unfold L.underB
    rw [hs, hu]
    simp
theorem root_path : L.splitE ⟨#[47]⟩ = 0 := by kernel_rfl
theorem Pu.all_in {f : Int} {s : St} {A : List Ev} (h : Pu f s A) : Wt.inL s s.lo ⟨#[47]⟩ = A.filter (gt s.lo) := by
  rw [h.inL (Int.le_refl _)]
  refine List.filter_congr fun e he => ?_
  rw [under_root (h.r e he).2.2, Bool.and_true]
def cnt (x : Int) (l : List Ev) : Nat := (l.filter (fun e => decide (e.v = x))).length
theorem cnt_succ (x : Int) (A : List Ev) (k : Nat) (h : k < A.length) : cnt x (A.take (k + 1)) = cnt x (A.take k) + (if (A.getD k Ev.z).v = x then 1 else 0) := by
  unfold cnt
  rw [filter_take _ A k h, List.length_append]
  by_cases q : (A.getD k Ev.z).v = x
  · rw [if_pos (by simpa using q), if_pos q]; rfl
  · rw [if_neg (by simpa using q), if_neg q]; rfl
theorem cnt_le (x : Int) (A : List Ev) (k : Nat) : cnt x (A.take k) ≤ k := filter_le _ A k
set_option maxHeartbeats 32000000 in
set_option maxRecDepth 100000 in
theorem keeps_walk (m : Ev) (version : Int) (u : Value) (ps : List (List Ev)) (w : World) (hG : Gl m w) (hN : Nst w u ps) (hv : -9223372036854775808 ≤ version ∧ version ≤ 9223372036854775807) :
    Calls Tryd.prog 3 #[.int .i64 version, u] w fun e w' => e = .returned (.bool true) ∧ Below w.heap.size w w' := by
  have KN := Lib.hid (known_any m w hG)
  have PU : Hid (∀ W : World, Below w.heap.size w W → Gl m W ∧ Calls Tryd.prog 10 #[.int .i64 version, u] W fun e w' => (e = .returned (.tuple #[.pointer none, .bool true]) ∧ Below W.heap.size W w') ∨
      ∃ gp g v vL s A, e = .returned (.tuple #[.pointer (some ⟨gp, 0, none⟩), .bool true]) ∧ Pd W w' gp g v vL (max version 0) s A ∧ s.hi ≤ 576460752303423888 ∧ A.length ≤ 120000) := Lib.hid fun W hb => ⟨hG.below hb, pushed_any m version u ps W (hG.below hb) (hN.below hb) hv⟩
  obtain ⟨f, hf⟩ : ∃ f, f = max version 0 := ⟨_, rfl⟩
  rw [← hf] at PU
  clear hG hN hf hv
  go_enter Tryd.func3, Tryd.ntmps3
  go_wp2_with fail
  refine KN.out.mono ?_
  rintro e w1 ⟨rfl, hb1⟩
  have B1 := Lib.hid hb1
  have P1 := Lib.hid (PU.out w1 hb1)
  clear KN PU hb1
  go_wp2_with fail
  refine P1.out.2.mono ?_
  rintro e w2 (⟨rfl, hb2⟩ | ⟨gp, g, v, vL, s, A, rfl, hp, hhi, hlA⟩)
  · have B2 := Lib.hid (B1.out.trans (hb2.mono B1.out.size))
    clear hb2
    go_wp2_with fail
    go_ret
    exact ⟨rfl, B2.out⟩
  have PD := Lib.hid hp
  have B2 := Lib.hid (B1.out.trans (hp.h.be.mono B1.out.size))
  have G2 : Hid (∀ W : World, Below w2.heap.size w2 W → Pd w1 W gp g v vL f s A ∧ Gl m W ∧ Below w.heap.size w W) := Lib.hid fun W hb => ⟨PD.out.below hb, (P1.out.1.below (PD.out.h.be.trans (hb.mono PD.out.h.be.size))), B2.out.trans (hb.mono B2.out.size)⟩
  have G1 := Lib.hid P1.out.1
  obtain ⟨lo, hi, es⟩ := s
  obtain ⟨b0, b1, b2⟩ := hp.h.ok.b
  have hfl := hp.pu.lo
  simp only at b0 b1 b2 hhi hfl
  have c0 : w2.drew.cell? ⟨gp, 0, none⟩ = some (.pointer (some ⟨g, 0, none⟩)) := hp.c0
  have LW : Hid (∀ W : World, Below w2.heap.size w2 W → (Calls Tryd.prog 11 #[.pointer (some ⟨g, 0, none⟩)] W fun e w' => e = .returned (.int .i64 lo) ∧ w' = W) ∧ (Calls Tryd.prog 12 #[.pointer (some ⟨g, 0, none⟩)] W fun e w' => e = .returned (.int .i64 hi) ∧ w' = W)) := Lib.hid fun W hb => ⟨low_any W g v _ (PD.out.below hb).h.h, high_any W g v _ (PD.out.below hb).h.h⟩
  have BD := Lib.hid (below_drawn w2 1)
  clear hp P1 B1
  go_wp2_with fail
  go_region_held3 (fun W : World => W.cell? ⟨gp, 0, none⟩ = some (.pointer (some ⟨g, 0, none⟩))) (first | assumption | go_keep) (first
    | (go_at_call 11
       refine (LW.out _ BD.out).1.mono ?_
       rintro e x1 ⟨rfl, rfl⟩)
    | (go_at_call 12
       refine (LW.out _ BD.out).2.mono ?_
       rintro e x2 ⟨rfl, rfl⟩))
  obtain ⟨W, hW⟩ : ∃ W, W = w2.drew := ⟨_, rfl⟩
  have BW : Hid (Below w2.heap.size w2 W) := Lib.hid (by rw [hW]; exact BD.out)
  have EW : w2.drew = W := hW.symm
  clear c0 hW
  obtain ⟨nA, hnA⟩ : ∃ nA, nA = A.length := ⟨_, rfl⟩
  have HA := Lib.hid hnA
  rw [← hnA] at hlA
  clear hnA
  obtain ⟨qn, aL, cL, rfl⟩ : ∃ n1 a1 c1, vL = .slice a1 n1 c1 := by (obtain ⟨a', c', e'⟩ := PD.out.l.slice; exact ⟨_, a', c', e'⟩)
  have EQ : qn = nA := by obtain ⟨a', c', e'⟩ := PD.out.l.slice; simp only [Value.slice.injEq] at e'; rw [HA.out]; exact e'.2.1
  subst EQ
  try rw [EW]
  go_wp2_with fail
  try rw [EW]
  go_loopg [9, 10, 11] qn (fun gk sw sb si wr => ∃ (k : Nat) (a1 : Option Addr) (n1 c1 bf : Nat), k ≤ qn ∧ gk = qn - k ∧ sw = .slice a1 n1 c1 ∧ sb = .int .i64 bf ∧ si = .int .i64 k ∧ Hid (OwnR kE w2.heap.size wr (.slice a1 n1 c1) ((A.take k).filter (gt lo)) ∧ bf = cnt lo (A.take k) ∧ Below w2.heap.size w2 wr))
  case atStart => exact ⟨0, none, 0, 0, 0, Nat.zero_le _, rfl, rfl, rfl, rfl, Lib.hid ⟨OwnR.nil _ _ _, rfl, by first | exact BW.out | exact BD.out⟩⟩
  case round =>
    obtain ⟨k, a1, n1, c1, bf, hk, hgk, rfl, rfl, rfl, R⟩ := hrel
    have GK := Lib.hid hgk
    clear hgk
    have c2 := (G2.out wr R.out.2.2).1.c2
    have hbf : bf ≤ 120000 := by have := cnt_le lo A k; have := R.out.2.1; omega
    by_cases hlt : k < qn
    · have hlt' : (k : Int) < (qn : Int) := by omega
      have hkA : k < A.length := by rw [← HA.out]; exact hlt
      obtain ⟨b, off, rfl, k0, k1, k2, k3, k4⟩ := row_at ((G2.out wr R.out.2.2).1.l.row okE) k hkA
      have FT := Lib.hid (filter_take (gt lo) A k hkA)
      have CT := Lib.hid (cnt_succ lo A k hkA)
      have LZ : Hid ((((A.take k).filter (gt lo)).length + 1) * kE.b ≤ 140737488355328) := Lib.hid (by
        have := filter_le (gt lo) A k
        show (_ + 1) * 56 ≤ _
        omega)
      obtain ⟨y, hy⟩ : ∃ y, y = A.getD k Ev.z := ⟨_, rfl⟩
      rw [← hy] at k0 k1 k2 k3 k4 FT CT
      have HY := Lib.hid hy
      clear hy hkA
      obtain ⟨yv, yk, yg, yp, yn⟩ := y
      simp only at k0 k1 k2 k3 k4 CT
      rcases Int.lt_trichotomy yv lo with q | q | q
      · have q1 : ¬ yv > lo := by omega
        have q2 : (yv == lo) = false := by rw [beq_eq_false_iff_ne]; omega
        have F2 : Hid ((A.take (k + 1)).filter (gt lo) = (A.take k).filter (gt lo)) := Lib.hid (by rw [FT.out, if_neg (by simpa [gt] using q1), List.append_nil])
        have C2 : Hid (cnt lo (A.take (k + 1)) = cnt lo (A.take k)) := Lib.hid (by rw [CT.out, if_neg (by omega)]; rfl)
        go_wp2_with fail
        go_roundg (qn - (k + 1))
        case measure => have := GK.out; omega
        case rel => exact ⟨k + 1, a1, n1, c1, bf, by omega, rfl, rfl, rfl, by go_num, Lib.hid ⟨by rw [F2.out]; exact R.out.1, by rw [C2.out]; exact R.out.2.1, R.out.2.2⟩⟩
      · subst q
        have q1 : ¬ yv > yv := by omega
        have F2 : Hid ((A.take (k + 1)).filter (gt yv) = (A.take k).filter (gt yv)) := Lib.hid (by rw [FT.out, if_neg (by simp [gt]), List.append_nil])
        have C2 : Hid (cnt yv (A.take (k + 1)) = cnt yv (A.take k) + 1) := Lib.hid (by rw [CT.out, if_pos rfl])
        go_wp2_with fail
        go_roundg (qn - (k + 1))
        case measure => have := GK.out; omega
        case rel => exact ⟨k + 1, a1, n1, c1, bf + 1, by omega, rfl, rfl, by go_num, by go_num, Lib.hid ⟨by rw [F2.out]; exact R.out.1, by rw [C2.out, ← R.out.2.1], R.out.2.2⟩⟩
      · have q1 : yv > lo := q
        have q2 : (yv == lo) = false := by rw [beq_eq_false_iff_ne]; omega
        have F2 : Hid ((A.take (k + 1)).filter (gt lo) = (A.take k).filter (gt lo) ++ [⟨yv, yk, yg, yp, yn⟩]) := Lib.hid (by rw [FT.out, if_pos (by simpa [gt] using q1)])
        have C2 : Hid (cnt lo (A.take (k + 1)) = cnt lo (A.take k)) := Lib.hid (by rw [CT.out, if_neg (by omega)]; rfl)
        have WB : Hid (w2.heap.size ≤ wr.heap.size) := Lib.hid R.out.2.2.size
        go_wp2_with (first
          | (at_builtin; refine app_rowB okE (gg := wr.heap.size) rfl _ _ rfl rfl R.out.1 WB.out ⟨yv, yk, yg, yp, yn⟩ rfl rfl rfl LZ.out ?_; intro v5 w5 h5 g5
             obtain ⟨n5, a5, c5, rfl⟩ : ∃ n1 a1 c1, v5 = .slice a1 n1 c1 := by (obtain ⟨a', c', e'⟩ := h5.slice; exact ⟨_, a', c', e'⟩)
             have W5 : Hid (Below w2.heap.size w2 w5 ∧ OwnR kE w2.heap.size w5 (.slice a5 n5 c5) ((A.take (k + 1)).filter (gt lo))) := Lib.hid ⟨R.out.2.2.grown g5 WB.out (fun j hj => (R.out.1.lt j hj).1), by rw [F2.out]; exact h5⟩
             have d2 := (G2.out w5 W5.out.1).1.c2
             obtain ⟨b', off', eb, d0, -⟩ := row_at ((G2.out w5 W5.out.1).1.l.row okE) k (by rw [← HA.out]; exact hlt)
             simp only [Option.some.injEq, Addr.mk.injEq, and_true] at eb
             obtain ⟨rfl, rfl⟩ := eb
             rw [← HY.out] at d0
             simp only at d0
             clear h5 g5))
        go_roundg (qn - (k + 1))
        case measure => have := GK.out; omega
        case rel => exact ⟨k + 1, a5, n5, c5, bf, by omega, rfl, rfl, rfl, by go_num, Lib.hid ⟨W5.out.2, by rw [C2.out]; exact R.out.2.1, W5.out.1⟩⟩
    · have EK : Hid (A.take k = A) := Lib.hid (List.take_of_length_le (by rw [← HA.out]; omega))
      rw [EK.out] at R
      have hltn : ¬ (k : Int) < (qn : Int) := by omega
      have c1' := (G2.out wr R.out.2.2).1.c1
      have PU := PD.out.pu
      have EE := PU.es
      simp only at EE
      have NW : Hid (n1 = (A.filter (gt lo)).length ∧ n1 ≤ 128) := Lib.hid (by
        have h1 : n1 = (A.filter (gt lo)).length := by obtain ⟨q1, q2, e⟩ := R.out.1.slice; simp only [Value.slice.injEq] at e; exact e.2.1
        have h2 := PD.out.h.ok.n
        simp only at h2
        rw [EE] at h2
        exact ⟨h1, by omega⟩)
      have h128 : ¬ (n1 : Int) > 128 := by have := NW.out; omega
      have hlh : ¬ lo > hi := by omega
      have hlf : ¬ lo < f := by omega
      have HC : Hid (lo > f → ¬ (n1 : Int) + (bf : Int) ≤ 128) := Lib.hid fun q => by
        rcases PU.m with c | c
        · simp only at c; omega
        · simp only at c
          rw [gt_pred] at c
          have h1 := NW.out.1
          have h2 := R.out.2.1
          unfold cnt at h2
          omega
      have hnb : n1 + bf ≤ 200000 := by have := NW.out; omega
      have PC := Lib.hid (pieces_any m w1 wr gp g v (.slice aL qn cL) f ⟨lo, hi, es⟩ A G1.out (G2.out wr R.out.2.2).1 lo ⟨#[47]⟩ 100 ⟨Int.le_refl _, b1⟩ ⟨by decide, by decide⟩)
      rw [decide_eq_true root_path] at PC
      have AI := Lib.hid PU.all_in
      clear PU EE
      by_cases hgf : lo > f
      · have hsum := HC.out hgf
        go_wp2_with fail
        refine PC.out.mono ?_
        rintro e w4 ⟨a4, n4, c4, rfl, hb4, ho4⟩
        have W4 : Hid (Below w2.heap.size w2 w4 ∧ Row kE w4 (.slice a4 n4 c4) (A.filter (gt lo)) ∧ Row kE w4 (.slice a1 n1 c1) (A.filter (gt lo))) := Lib.hid ⟨R.out.2.2.trans (hb4.mono R.out.2.2.size), by have h := (ho4 root_path).row okE; rw [AI.out] at h; exact h, (R.out.1.row okE).below hb4⟩
        clear hb4 ho4 PC
        have d4 := (G2.out w4 W4.out.1).1.c0
        have S4 := Lib.hid (since_any w4 g v ⟨lo, hi, es⟩ (lo - 1) ⟨#[47]⟩ 1 (G2.out w4 W4.out.1).2.1.hm (G2.out w4 W4.out.1).1.h.h PD.out.h.ok)
        rw [show sinE ⟨lo, hi, es⟩ (lo - 1) ⟨#[47]⟩ 1 = 220 by unfold sinE; rw [if_neg (by omega), if_neg (by rw [root_path]; simp), if_pos (by simp only; omega)]] at S4
        go_wp2_with fail
        refine S4.out.mono ?_
        rintro e w5 ⟨a5, n5, c5, x5, rfl, hb5, -, -⟩
        have W5 : Hid (Below w2.heap.size w2 w5 ∧ Row kE w5 (.slice a4 n4 c4) (A.filter (gt lo)) ∧ Row kE w5 (.slice a1 n1 c1) (A.filter (gt lo))) := Lib.hid ⟨W4.out.1.trans (hb5.mono W4.out.1.size), W4.out.2.1.below hb5, W4.out.2.2.below hb5⟩
        clear hb5 S4 W4 d4
        have d5 := (G2.out w5 W5.out.1).1.c0
        have S5 := Lib.hid (since_any w5 g v ⟨lo, hi, es⟩ (hi + 1) ⟨#[47]⟩ 1 (G2.out w5 W5.out.1).2.1.hm (G2.out w5 W5.out.1).1.h.h PD.out.h.ok)
        rw [show sinE ⟨lo, hi, es⟩ (hi + 1) ⟨#[47]⟩ 1 = 221 by unfold sinE; rw [if_neg (by omega), if_neg (by rw [root_path]; simp), if_neg (by simp only; omega), if_pos (by simp only; omega)]] at S5
        go_wp2_with fail
        refine S5.out.mono ?_
        rintro e w6 ⟨a6, n6, c6, x6, rfl, hb6, -, -⟩
        have W6 : Hid (Below w2.heap.size w2 w6 ∧ Row kE w6 (.slice a4 n4 c4) (A.filter (gt lo)) ∧ Row kE w6 (.slice a1 n1 c1) (A.filter (gt lo))) := Lib.hid ⟨W5.out.1.trans (hb6.mono W5.out.1.size), W5.out.2.1.below hb6, W5.out.2.2.below hb6⟩
        clear hb6 S5 W5 d5
        have SM := Lib.hid (same_yes (.slice a4 n4 c4) (.slice a1 n1 c1) _ w6 W6.out.2.1 W6.out.2.2)
        go_wp2_with fail
        refine SM.out.mono ?_
        rintro e w7 ⟨rfl, hb7⟩
        have W7 := Lib.hid (B2.out.trans ((W6.out.1.trans (hb7.mono W6.out.1.size)).mono B2.out.size))
        clear hb7 SM
        go_wp2_with fail
        go_ret
        exact ⟨rfl, W7.out⟩
      · go_wp2_with fail
        refine PC.out.mono ?_
        rintro e w4 ⟨a4, n4, c4, rfl, hb4, ho4⟩
        have W4 : Hid (Below w2.heap.size w2 w4 ∧ Row kE w4 (.slice a4 n4 c4) (A.filter (gt lo)) ∧ Row kE w4 (.slice a1 n1 c1) (A.filter (gt lo))) := Lib.hid ⟨R.out.2.2.trans (hb4.mono R.out.2.2.size), by have h := (ho4 root_path).row okE; rw [AI.out] at h; exact h, (R.out.1.row okE).below hb4⟩
        clear hb4 ho4 PC
        have d4 := (G2.out w4 W4.out.1).1.c0
        have S4 := Lib.hid (since_any w4 g v ⟨lo, hi, es⟩ (lo - 1) ⟨#[47]⟩ 1 (G2.out w4 W4.out.1).2.1.hm (G2.out w4 W4.out.1).1.h.h PD.out.h.ok)
        rw [show sinE ⟨lo, hi, es⟩ (lo - 1) ⟨#[47]⟩ 1 = 220 by unfold sinE; rw [if_neg (by omega), if_neg (by rw [root_path]; simp), if_pos (by simp only; omega)]] at S4
        go_wp2_with fail
        refine S4.out.mono ?_
        rintro e w5 ⟨a5, n5, c5, x5, rfl, hb5, -, -⟩
        have W5 : Hid (Below w2.heap.size w2 w5 ∧ Row kE w5 (.slice a4 n4 c4) (A.filter (gt lo)) ∧ Row kE w5 (.slice a1 n1 c1) (A.filter (gt lo))) := Lib.hid ⟨W4.out.1.trans (hb5.mono W4.out.1.size), W4.out.2.1.below hb5, W4.out.2.2.below hb5⟩
        clear hb5 S4 W4 d4
        have d5 := (G2.out w5 W5.out.1).1.c0
        have S5 := Lib.hid (since_any w5 g v ⟨lo, hi, es⟩ (hi + 1) ⟨#[47]⟩ 1 (G2.out w5 W5.out.1).2.1.hm (G2.out w5 W5.out.1).1.h.h PD.out.h.ok)
        rw [show sinE ⟨lo, hi, es⟩ (hi + 1) ⟨#[47]⟩ 1 = 221 by unfold sinE; rw [if_neg (by omega), if_neg (by rw [root_path]; simp), if_neg (by simp only; omega), if_pos (by simp only; omega)]] at S5
        go_wp2_with fail
        refine S5.out.mono ?_
        rintro e w6 ⟨a6, n6, c6, x6, rfl, hb6, -, -⟩
        have W6 : Hid (Below w2.heap.size w2 w6 ∧ Row kE w6 (.slice a4 n4 c4) (A.filter (gt lo)) ∧ Row kE w6 (.slice a1 n1 c1) (A.filter (gt lo))) := Lib.hid ⟨W5.out.1.trans (hb6.mono W5.out.1.size), W5.out.2.1.below hb6, W5.out.2.2.below hb6⟩
        clear hb6 S5 W5 d5
        have SM := Lib.hid (same_yes (.slice a4 n4 c4) (.slice a1 n1 c1) _ w6 W6.out.2.1 W6.out.2.2)
        go_wp2_with fail
        refine SM.out.mono ?_
        rintro e w7 ⟨rfl, hb7⟩
        have W7 := Lib.hid (B2.out.trans ((W6.out.1.trans (hb7.mono W6.out.1.size)).mono B2.out.size))
        clear hb7 SM
        go_wp2_with fail
        go_ret
        exact ⟨rfl, W7.out⟩
end Wt
end Go.Proofs.YtoocpbpdoaplgaaDoor
