/-
  WatchPieces.
-/
import Derived.Test.YtoocpbpdoaplgaaDoorWtM
import Derived.Test.YtoocpbpdoaplgaaDoorWtN
namespace Go.Proofs.YtoocpbpdoaplgaaDoor
open Go.RowKit
namespace Wt
theorem from_in (hi lo back : Int) (h0 : 0 ≤ lo) (h1 : lo ≤ hi) (h2 : hi ≤ 1152921504606846976) : lo ≤ wrap64 (hi - wrap64 ((IntKind.u64.wrap back).tmod (hi - lo + 1))) ∧ wrap64 (hi - wrap64 ((IntKind.u64.wrap back).tmod (hi - lo + 1))) ≤ hi := by
  have u0 : 0 ≤ IntKind.u64.wrap back := by rw [IntKind.wrap_u64]; omega
  have r0 := Int.tmod_nonneg (hi - lo + 1) u0
  have r1 := Int.tmod_lt_of_pos (IntKind.u64.wrap back) (show 0 < hi - lo + 1 by omega)
  generalize (IntKind.u64.wrap back).tmod (hi - lo + 1) = r at *
  unfold wrap64
  omega
theorem most_in (most : Int) : 1 ≤ wrap64 (wrap64 ((IntKind.u64.wrap most).tmod 100) + 1) ∧ wrap64 (wrap64 ((IntKind.u64.wrap most).tmod 100) + 1) ≤ 100 := by
  have u0 : 0 ≤ IntKind.u64.wrap most := by rw [IntKind.wrap_u64]; omega
  have r0 := Int.tmod_nonneg 100 u0
  have r1 := Int.tmod_lt_of_pos (IntKind.u64.wrap most) (show (0 : Int) < 100 by decide)
  generalize (IntKind.u64.wrap most).tmod 100 = r at *
  unfold wrap64
  omega
set_option maxHeartbeats 32000000 in
set_option maxRecDepth 100000 in
theorem pieces_walk (m : Ev) (version : Int) (u : Value) (ps : List (List Ev)) (back : Int) (path : ByteArray) (most : Int) (w : World) (hG : Gl m w) (hN : Nst w u ps) (hv : -9223372036854775808 ≤ version ∧ version ≤ 9223372036854775807) (hbk : -9223372036854775808 ≤ back ∧ back ≤ 9223372036854775807) (hms : -9223372036854775808 ≤ most ∧ most ≤ 9223372036854775807) :
    Calls Tryd.prog 4 #[.int .i64 version, u, .int .i64 back, .string path, .int .i64 most] w fun e w' => e = .returned (.bool true) ∧ Below w.heap.size w w' := by
  have KN := Lib.hid (known_any m w hG)
  have PU : Hid (∀ W : World, Below w.heap.size w W → Gl m W ∧ Calls Tryd.prog 10 #[.int .i64 version, u] W fun e w' => (e = .returned (.tuple #[.pointer none, .bool true]) ∧ Below W.heap.size W w') ∨
      ∃ gp g v vL s A, e = .returned (.tuple #[.pointer (some ⟨gp, 0, none⟩), .bool true]) ∧ Pd W w' gp g v vL (max version 0) s A ∧ s.hi ≤ 576460752303423888 ∧ A.length ≤ 120000) := Lib.hid fun W hb => ⟨hG.below hb, pushed_any m version u ps W (hG.below hb) (hN.below hb) hv⟩
  obtain ⟨f, hf⟩ : ∃ f, f = max version 0 := ⟨_, rfl⟩
  rw [← hf] at PU
  clear hG hN hf hv
  obtain ⟨bk0, bk1⟩ := hbk
  obtain ⟨ms0, ms1⟩ := hms
  go_enter Tryd.func4, Tryd.ntmps4
  go_wp2_with fail
  refine KN.out.mono ?_
  rintro e w1 ⟨rfl, hb1⟩
  have B1 := Lib.hid hb1
  have P1 := Lib.hid (PU.out w1 hb1)
  clear KN PU hb1
  go_wp2_with fail
  refine P1.out.2.mono ?_
  rintro e w2 (⟨rfl, hb2⟩ | ⟨gp, g, v, vL, s, A, rfl, hp, hhi, hlA⟩)
  · have B2 := Lib.hid (B1.out.trans (hb2.mono B1.out.size))
    clear hb2
    go_wp2_with fail
    go_ret
    exact ⟨rfl, B2.out⟩
  have PD := Lib.hid hp
  have B2 := Lib.hid (B1.out.trans (hp.h.be.mono B1.out.size))
  have G2 : Hid (∀ W : World, Below w2.heap.size w2 W → Pd w1 W gp g v vL f s A ∧ Gl m W ∧ Below w.heap.size w W) := Lib.hid fun W hb => ⟨PD.out.below hb, (P1.out.1.below (PD.out.h.be.trans (hb.mono PD.out.h.be.size))), B2.out.trans (hb.mono B2.out.size)⟩
  have G1 := Lib.hid P1.out.1
  obtain ⟨lo, hi, es⟩ := s
  obtain ⟨b0, b1, b2⟩ := hp.h.ok.b
  simp only at b0 b1 b2 hhi
  have c0 : w2.drew.cell? ⟨gp, 0, none⟩ = some (.pointer (some ⟨g, 0, none⟩)) := hp.c0
  have LW : Hid (∀ W : World, Below w2.heap.size w2 W → (Calls Tryd.prog 11 #[.pointer (some ⟨g, 0, none⟩)] W fun e w' => e = .returned (.int .i64 lo) ∧ w' = W) ∧ (Calls Tryd.prog 12 #[.pointer (some ⟨g, 0, none⟩)] W fun e w' => e = .returned (.int .i64 hi) ∧ w' = W)) := Lib.hid fun W hb => ⟨low_any W g v _ (PD.out.below hb).h.h, high_any W g v _ (PD.out.below hb).h.h⟩
  have BD := Lib.hid (below_drawn w2 1)
  clear hp P1 B1
  go_wp2_with fail
  go_region_held3 (fun W : World => W.cell? ⟨gp, 0, none⟩ = some (.pointer (some ⟨g, 0, none⟩))) (first | assumption | go_keep) (first
    | (go_at_call 11
       refine (LW.out _ BD.out).1.mono ?_
       rintro e x1 ⟨rfl, rfl⟩)
    | (go_at_call 12
       refine (LW.out _ BD.out).2.mono ?_
       rintro e x2 ⟨rfl, rfl⟩))
  clear c0
  go_wp2_with fail
  have FI := from_in hi lo back b0 b1 b2
  have MI := most_in most
  obtain ⟨fr, hfr⟩ : ∃ fr, fr = wrap64 (hi - wrap64 ((IntKind.u64.wrap back).tmod (hi - lo + 1))) := ⟨_, rfl⟩
  obtain ⟨mo, hmo⟩ : ∃ mo, mo = wrap64 (wrap64 ((IntKind.u64.wrap most).tmod 100) + 1) := ⟨_, rfl⟩
  rw [← hfr] at FI ⊢
  rw [← hmo] at MI ⊢
  clear hfr hmo
  generalize wrap64 ((IntKind.u64.wrap back).tmod (hi - lo + 1)) = q1
  generalize (IntKind.u64.wrap back).tmod (hi - lo + 1) = q2
  generalize IntKind.u64.wrap back = q3
  generalize wrap64 ((IntKind.u64.wrap most).tmod 100) = q4
  generalize (IntKind.u64.wrap most).tmod 100 = q5
  generalize IntKind.u64.wrap most = q6
  generalize hi - lo + 1 = q7
  generalize hi - lo = q8
  obtain ⟨f0, f1⟩ := FI
  have PC := Lib.hid (pieces_any m w1 (w2.drewN 1) gp g v vL f ⟨lo, hi, es⟩ A G1.out (G2.out _ BD.out).1 fr path mo ⟨f0, f1⟩ MI)
  refine PC.out.mono ?_
  rintro e w4 ⟨a4, n4, c4, rfl, hb4, ho4⟩
  have W4 : Hid (Below w2.heap.size w2 w4 ∧ (L.splitE path = 0 → Row kE w4 (.slice a4 n4 c4) (inL ⟨lo, hi, es⟩ fr path))) := Lib.hid ⟨(below_drawn w2 1).trans hb4, fun q => (ho4 q).row okE⟩
  have PA := Lib.hid (L.path_any path w4 (G2.out w4 W4.out.1).2.1.hm)
  clear hb4 ho4 PC BD LW
  go_wp2_with fail
  refine PA.out.mono ?_
  rintro e w5 ⟨rfl, hb5⟩
  have W5 : Hid (Below w2.heap.size w2 w5 ∧ (L.splitE path = 0 → Row kE w5 (.slice a4 n4 c4) (inL ⟨lo, hi, es⟩ fr path))) := Lib.hid ⟨W4.out.1.trans (hb5.mono W4.out.1.size), fun q => (W4.out.2 q).below hb5⟩
  clear hb5 PA W4
  by_cases hp : L.splitE path = 0
  · have g3 : (L.splitE path == 0) = true := by rw [beq_iff_eq]; exact hp
    have gd : decide (L.splitE path = 0) = true := decide_eq_true hp
    have RG : Hid (Row kE w5 (.slice a4 n4 c4) (A.filter (fun e => gt fr e && L.underB e.p path))) := Lib.hid (by
      have h := W5.out.2 hp
      rw [PD.out.pu.inL f0] at h
      exact h)
    have HP := Lib.hid hp
    rw [gd, hp]
    clear hp gd g3
    obtain ⟨nA, hnA⟩ : ∃ nA, nA = A.length := ⟨_, rfl⟩
    have HA := Lib.hid hnA
    rw [← hnA] at hlA
    clear hnA
    obtain ⟨qn, aL, cL, rfl⟩ : ∃ n1 a1 c1, vL = .slice a1 n1 c1 := by (obtain ⟨a', c', e'⟩ := PD.out.l.slice; exact ⟨_, a', c', e'⟩)
    have EQ : qn = nA := by obtain ⟨a', c', e'⟩ := PD.out.l.slice; simp only [Value.slice.injEq] at e'; rw [HA.out]; exact e'.2.1
    subst EQ
    go_wp2_with fail
    go_loopg [20, 21] qn (fun gk sw si wr => ∃ (k : Nat) (a1 : Option Addr) (n1 c1 : Nat), k ≤ qn ∧ gk = qn - k ∧ sw = .slice a1 n1 c1 ∧ si = .int .i64 k ∧ Hid (OwnR kE w5.heap.size wr (.slice a1 n1 c1) ((A.take k).filter (fun e => gt fr e && L.underB e.p path)) ∧ Below w5.heap.size w5 wr))
    case atStart => exact ⟨0, none, 0, 0, Nat.zero_le _, rfl, rfl, rfl, Lib.hid ⟨OwnR.nil _ _ _, Below.refl _ _⟩⟩
    case round =>
      obtain ⟨k, a1, n1, c1, hk, hgk, rfl, rfl, R⟩ := hrel
      have GK := Lib.hid hgk
      clear hgk
      have WX : Hid (∀ W : World, Below w5.heap.size w5 W → Pd w1 W gp g v (.slice aL qn cL) f ⟨lo, hi, es⟩ A ∧ Gl m W ∧ Below w.heap.size w W) := Lib.hid fun W hb => G2.out W (W5.out.1.trans (hb.mono W5.out.1.size))
      have c2 := (WX.out wr R.out.2).1.c2
      by_cases hlt : k < qn
      · have hlt' : (k : Int) < (qn : Int) := by omega
        have hkA : k < A.length := by rw [← HA.out]; exact hlt
        obtain ⟨b, off, rfl, k0, k1, k2, k3, k4⟩ := row_at ((WX.out wr R.out.2).1.l.row okE) k hkA
        have FT := Lib.hid (filter_take (fun e => gt fr e && L.underB e.p path) A k hkA)
        have LZ : Hid ((((A.take k).filter (fun e => gt fr e && L.underB e.p path)).length + 1) * kE.b ≤ 140737488355328) := Lib.hid (by
          have := filter_le (fun e => gt fr e && L.underB e.p path) A k
          show (_ + 1) * 56 ≤ _
          omega)
        have RW : Hid (∀ W : World, Below wr.heap.size wr W → ∀ i y, (kE.c (A.getD k Ev.z))[i]? = some y → W.cell? ⟨b, off + k * 5 + i, none⟩ = some y) := Lib.hid fun W hb i y hy => by
          obtain ⟨b', off', eb, hc⟩ := (((WX.out wr R.out.2).1.l.row okE).below hb).at k hkA
          simp only [Option.some.injEq, Addr.mk.injEq, and_true] at eb
          obtain ⟨rfl, rfl⟩ := eb
          exact hc i y hy
        obtain ⟨y, hy⟩ : ∃ y, y = A.getD k Ev.z := ⟨_, rfl⟩
        rw [← hy] at k0 k1 k2 k3 k4 FT RW
        clear hy hkA
        obtain ⟨yv, yk, yg, yp, yn⟩ := y
        simp only at k0 k1 k2 k3 k4
        by_cases q : yv > fr
        · have UA := Lib.hid (L.under_any yp path wr (WX.out wr R.out.2).2.1.hm)
          go_wp2_with fail
          refine UA.out.mono ?_
          rintro e w6 ⟨rfl, hb6⟩
          have j0 : w6.cell? ⟨b, off + k * 5, none⟩ = some (.int .i64 yv) := RW.out w6 hb6 0 _ rfl
          have j1 : w6.cell? ⟨b, off + k * 5 + 1, none⟩ = some (.int .i64 yk) := RW.out w6 hb6 1 _ rfl
          have j2 : w6.cell? ⟨b, off + k * 5 + 2, none⟩ = some (.bool yg) := RW.out w6 hb6 2 _ rfl
          have j3 : w6.cell? ⟨b, off + k * 5 + 3, none⟩ = some (.string yp) := RW.out w6 hb6 3 _ rfl
          have j4 : w6.cell? ⟨b, off + k * 5 + 4, none⟩ = some (.string yn) := RW.out w6 hb6 4 _ rfl
          have W6 : Hid (OwnR kE w5.heap.size w6 (.slice a1 n1 c1) ((A.take k).filter (fun e => gt fr e && L.underB e.p path)) ∧ Below w5.heap.size w5 w6) := Lib.hid ⟨R.out.1.below hb6, R.out.2.trans (hb6.mono R.out.2.size)⟩
          have d2 := (WX.out w6 W6.out.2).1.c2
          clear hb6 UA RW c2 k0 k1 k2 k3 k4 R
          by_cases hu : L.underB yp path = true
          · rw [hu]
            have F2 : Hid ((A.take (k + 1)).filter (fun e => gt fr e && L.underB e.p path) = (A.take k).filter (fun e => gt fr e && L.underB e.p path) ++ [⟨yv, yk, yg, yp, yn⟩]) := Lib.hid (by rw [FT.out, if_pos (by simp [gt, q, hu])])
            go_wp2_with (at_builtin; refine app_rowB okE (gg := w6.heap.size) rfl _ _ rfl rfl W6.out.1 W6.out.2.size ⟨yv, yk, yg, yp, yn⟩ rfl rfl rfl LZ.out ?_; intro v7 w7 h7 g7)
            obtain ⟨n7, a7, c7, rfl⟩ : ∃ n1 a1 c1, v7 = .slice a1 n1 c1 := by (obtain ⟨a', c', e'⟩ := h7.slice; exact ⟨_, a', c', e'⟩)
            have W7 : Hid (OwnR kE w5.heap.size w7 (.slice a7 n7 c7) ((A.take (k + 1)).filter (fun e => gt fr e && L.underB e.p path)) ∧ Below w5.heap.size w5 w7) := Lib.hid ⟨by rw [F2.out]; exact h7, W6.out.2.grown g7 W6.out.2.size (fun j hj => (W6.out.1.lt j hj).1)⟩
            clear h7 g7
            go_wp2_with fail
            go_roundg (qn - (k + 1))
            case measure => have := GK.out; omega
            case rel => exact ⟨k + 1, a7, n7, c7, by omega, rfl, rfl, by go_num, W7⟩
          · have hu' : L.underB yp path = false := by simpa using hu
            rw [hu']
            have F2 : Hid ((A.take (k + 1)).filter (fun e => gt fr e && L.underB e.p path) = (A.take k).filter (fun e => gt fr e && L.underB e.p path)) := Lib.hid (by rw [FT.out, if_neg (by simp [hu']), List.append_nil])
            go_wp2_with fail
            go_roundg (qn - (k + 1))
            case measure => have := GK.out; omega
            case rel => exact ⟨k + 1, a1, n1, c1, by omega, rfl, rfl, by go_num, Lib.hid ⟨by rw [F2.out]; exact W6.out.1, W6.out.2⟩⟩
        · have F2 : Hid ((A.take (k + 1)).filter (fun e => gt fr e && L.underB e.p path) = (A.take k).filter (fun e => gt fr e && L.underB e.p path)) := Lib.hid (by rw [FT.out, if_neg (by simp [gt]; intro c; exact absurd c q), List.append_nil])
          go_wp2_with fail
          go_roundg (qn - (k + 1))
          case measure => have := GK.out; omega
          case rel => exact ⟨k + 1, a1, n1, c1, by omega, rfl, rfl, by go_num, Lib.hid ⟨by rw [F2.out]; exact R.out.1, R.out.2⟩⟩
      · have EK : Hid (A.take k = A) := Lib.hid (List.take_of_length_le (by rw [← HA.out]; omega))
        rw [EK.out] at R
        have hltn : ¬ (k : Int) < (qn : Int) := by omega
        have SM := Lib.hid (same_yes (.slice a4 n4 c4) (.slice a1 n1 c1) _ wr (RG.out.below R.out.2) (R.out.1.row okE))
        go_wp2_with fail
        refine SM.out.mono ?_
        rintro e w7 ⟨rfl, hb7⟩
        have W7 := Lib.hid ((WX.out wr R.out.2).2.2.trans (hb7.mono (WX.out wr R.out.2).2.2.size))
        clear hb7 SM
        go_wp2_with fail
        go_ret
        exact ⟨rfl, W7.out⟩
  · have g3 : (L.splitE path == 0) = false := by rw [beq_eq_false_iff_ne]; exact hp
    have gd : decide (L.splitE path = 0) = false := decide_eq_false hp
    have d5 := (G2.out w5 W5.out.1).1.c0
    have S5 := Lib.hid (since_any w5 g v ⟨lo, hi, es⟩ fr path mo (G2.out w5 W5.out.1).2.1.hm (G2.out w5 W5.out.1).1.h.h PD.out.h.ok)
    rw [sinE_path MI hp] at S5
    clear hp
    go_wp2_with fail
    refine S5.out.mono ?_
    rintro e w6 ⟨a6, n6, c6, x6, rfl, hb6, -, -⟩
    have W6 := Lib.hid ((G2.out w5 W5.out.1).2.2.trans (hb6.mono (G2.out w5 W5.out.1).2.2.size))
    clear hb6 S5
    go_wp2_with fail
    go_ret
    exact ⟨rfl, W6.out⟩
end Wt
end Go.Proofs.YtoocpbpdoaplgaaDoor
