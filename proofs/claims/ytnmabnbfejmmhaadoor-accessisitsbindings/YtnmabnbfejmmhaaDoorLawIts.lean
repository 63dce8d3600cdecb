/-
  AccessIsItsBindings.
-/
import Derived.Test.YtnmabnbfejmmhaaDoorAiS
import Derived.Test.YtnmabnbfejmmhaaDoorLawDown
import Derived.Deep.DeepCutAuto
import Derived.Lib.QuietBelow
import Derived.BigQuiet
namespace Go.Proofs.YtnmabnbfejmmhaaDoor
open Go.RowKit Go.Sort Go.Lib
def kI : Kd Int := ⟨fun x => [.int .i64 x], 1, 3, 23, 8, 0⟩
namespace Ac
theorem kept_four (w : World) (g i0 i1 i2 i3 : Nat) (u0 u1 u2 u3 : Value) : Kept (fun y => y = g) w ((((w.setCell ⟨g, i0, none⟩ u0).setCell ⟨g, i1, none⟩ u1).setCell ⟨g, i2, none⟩ u2).setCell ⟨g, i3, none⟩ u3) :=
  (((kept_set (F := fun y => y = g) w ⟨g, i0, none⟩ u0 rfl).trans (kept_set (F := fun y => y = g) _ ⟨g, i1, none⟩ u1 rfl) (fun _ _ q => q)).trans (kept_set (F := fun y => y = g) _ ⟨g, i2, none⟩ u2 rfl) (fun _ _ q => q)).trans (kept_set (F := fun y => y = g) _ ⟨g, i3, none⟩ u3 rfl) (fun _ _ q => q)
theorem rowI_at {w : World} {a : Option Addr} {n cap : Nat} {xs : List Int} (H : Row kI w (.slice a n cap) xs) (k : Nat) (hk : k < xs.length) : ∃ b off, a = some ⟨b, off, none⟩ ∧ w.cell? ⟨b, off + k, none⟩ = some (.int .i64 (xs.getD k 0)) := by
  obtain ⟨b, off, ea, h⟩ := H.at k hk
  have hc := h 0 _ rfl
  have : kI.k = 1 := rfl
  rw [this, Nat.mul_one, Nat.add_zero] at hc
  exact ⟨b, off, ea, hc⟩
set_option maxHeartbeats 16000000 in
set_option maxRecDepth 100000 in
theorem its (v0 : Value) (l : List Sp) (ov : Value) (os : List Int) (w : World) (hm : L.HasM w) (hv : Row kSp w v0 l) (hf : ∀ o ∈ l, o.Fit) (ho : Row kI w ov os) :
    Calls Tryd.prog 3 #[v0, ov] w fun e w' => e = .returned (.bool true) ∧ Below w.heap.size w w' := by
  obtain ⟨a0, c0, rfl, hlc, hcm⟩ := hv.len
  obtain ⟨a9, c9, rfl, hlc9, hcm9⟩ := ho.len
  obtain ⟨n0, hn0⟩ : ∃ n0, n0 = l.length := ⟨_, rfl⟩
  obtain ⟨n9, hn9⟩ : ∃ n9, n9 = os.length := ⟨_, rfl⟩
  rw [← hn0] at hv ⊢
  rw [← hn9] at ho ⊢
  have HV := Lib.hid hv
  have HF := Lib.hid hf
  have HN := Lib.hid hn0
  have HO := Lib.hid ho
  have HN9 := Lib.hid hn9
  have hn1 : n0 ≤ 9223372036854775807 := by unfold maxLen at hcm; omega
  have hn2 : n9 ≤ 9223372036854775807 := by unfold maxLen at hcm9; omega
  have HM := Lib.hid hm
  clear hv hf hm hlc hcm hn0 ho hn9 hlc9 hcm9
  go_enter Tryd.func3, Tryd.ntmps3
  go_wp2_with fail
  refine (lives_any w HM.out).mono ?_
  rintro e w1 ⟨t, b, rfl, S1⟩
  have T1 : Hid (∃ D', Ta w1 t b (0 + 1) D' ∧ Below w.heap.size w w1 ∧ Iv D') := Lib.hid ⟨D2, S1.out.1, S1.out.2.1, Iv.start⟩
  have LB : Hid (w.heap.size ≤ b) := Lib.hid S1.out.2.2
  clear S1
  go_wp2_with fail
  go_loopg [6] 60 (fun gg si wr => ∃ i : Nat, i ≤ 60 ∧ gg = 60 - i ∧ si = .int .i64 i ∧ Hid (∃ D', Ta wr t b (i + 1) D' ∧ Below w.heap.size w wr ∧ Iv D'))
  case atStart => exact ⟨0, by omega, rfl, rfl, T1⟩
  case round =>
    clear T1
    obtain ⟨i, hi, hg, rfl, S⟩ := hrel
    have G := Lib.hid hg
    clear hg
    go_upto_region 5 with fail
    go_cut [28] from 21 to 28 (fun sb wx => sb = .bool (decide (i < n0 ∧ i < 60)) ∧ wr = wx)
    case first =>
      by_cases ean : i < n0
      · have eae : (i : Int) < (n0 : Int) := by omega
        have eab : decide ((i : Int) < (n0 : Int)) = true := decide_eq_true eae
        have eac : decide (i < n0) = true := decide_eq_true ean
        by_cases ebn : i < 60
        · have ebe : (i : Int) < 60 := by omega
          have ebb : decide ((i : Int) < 60) = true := decide_eq_true ebe
          have ebc : decide (i < 60) = true := decide_eq_true ebn
          go_wp2_with fail
          go_meet
          case rel => exact ⟨by rw [decide_eq_true (show i < n0 ∧ i < 60 from ⟨ean, ebn⟩)], rfl⟩
        · have ebe : ¬ (i : Int) < 60 := by omega
          have ebb : decide ((i : Int) < 60) = false := decide_eq_false ebe
          have ebc : decide (i < 60) = false := decide_eq_false ebn
          go_wp2_with fail
          go_meet
          case rel => exact ⟨by rw [decide_eq_false (show ¬ (i < n0 ∧ i < 60) from fun z => ebn z.2)], rfl⟩
      · have eae : ¬ (i : Int) < (n0 : Int) := by omega
        have eab : decide ((i : Int) < (n0 : Int)) = false := decide_eq_false eae
        have eac : decide (i < n0) = false := decide_eq_false ean
        go_wp2_with fail
        go_meet
        case rel => exact ⟨by rw [decide_eq_false (show ¬ (i < n0 ∧ i < 60) from fun z => ean z.1)], rfl⟩
    case rest =>
      obtain ⟨rfl, rfl⟩ := hcut
      by_cases hlt : i < n0 ∧ i < 60
      · have gin : decide (i < n0 ∧ i < 60) = true := decide_eq_true hlt
        have h1 : (i : Int) < (n0 : Int) := by omega
        obtain ⟨D3, hT, hB, hI⟩ := S.out
        have T3 := Lib.hid (And.intro hT (And.intro hB hI))
        clear hT hB hI
        obtain ⟨bb, off, ea, pc⟩ := sp_at (HV.out.below T3.out.2.1) i (by rw [← HN.out]; exact hlt.1)
        subst ea
        have FT := Lib.hid (HF.out _ (show l.getD i kSp.z ∈ l from getD_inB (by rw [← HN.out]; exact hlt.1)))
        obtain ⟨⟨two, kind, verb, ⟨bp, bn, bs, bv⟩, p, q, u⟩, ho⟩ : ∃ o, o = l.getD i kSp.z := ⟨_, rfl⟩
        rw [← ho] at pc FT
        have p0 : wr.cell? ⟨bb, off + i * 10, none⟩ = some (.bool two) := pc 0 _ rfl
        have p1 : wr.cell? ⟨bb, off + i * 10 + 1, none⟩ = some (.int .i64 kind) := pc 1 _ rfl
        have p2 : wr.cell? ⟨bb, off + i * 10 + 2, none⟩ = some (.int .i64 verb) := pc 2 _ rfl
        have p3 : wr.cell? ⟨bb, off + i * 10 + 3, none⟩ = some (.string bp) := pc 3 _ rfl
        have p4 : wr.cell? ⟨bb, off + i * 10 + 4, none⟩ = some (.string bn) := pc 4 _ rfl
        have p5 : wr.cell? ⟨bb, off + i * 10 + 5, none⟩ = some (.string bs) := pc 5 _ rfl
        have p6 : wr.cell? ⟨bb, off + i * 10 + 6, none⟩ = some (.int .i64 bv) := pc 6 _ rfl
        have p7 : wr.cell? ⟨bb, off + i * 10 + 7, none⟩ = some (.string p) := pc 7 _ rfl
        have p8 : wr.cell? ⟨bb, off + i * 10 + 8, none⟩ = some (.string q) := pc 8 _ rfl
        have p9 : wr.cell? ⟨bb, off + i * 10 + 9, none⟩ = some (.string u) := pc 9 _ rfl
        have PL := Lib.hid (play_iv ⟨two, kind, verb, ⟨bp, bn, bs, bv⟩, p, q, u⟩ wr t b (i + 1) D3 T3.out.1 (by omega) FT.out T3.out.2.2)
        unfold Sp.cells at PL
        simp only at PL
        clear pc ho S
        go_wp2_with fail
        refine PL.out.mono ?_
        rintro e w2 ⟨rfl, D4, hT4, hk4, hi4⟩
        have S4 : Hid (∃ D', Ta w2 t b (i + 1 + 1) D' ∧ Below w.heap.size w w2 ∧ Iv D') := Lib.hid ⟨D4, hT4, T3.out.2.1.trans (hk4.below T3.out.2.1.size (fun x e => by rw [e]; exact LB.out)), hi4⟩
        clear hT4 hk4 hi4 p0 p1 p2 p3 p4 p5 p6 p7 p8 p9 PL
        go_wp2_with fail
        go_roundg (60 - (i + 1))
        case measure => have := G.out; omega
        case rel => exact ⟨i + 1, by omega, rfl, by go_num, S4⟩
      · have gin : decide (i < n0 ∧ i < 60) = false := decide_eq_false hlt
        obtain ⟨D3, hT, hB, hI⟩ := S.out
        have LI := Lib.hid (list_any wr t b (i + 1) D3 hT (by omega) hI.vl)
        have SZ : Hid (Maps.size D3 ≤ 61) := Lib.hid (by have := hT.tb.m.size_le; omega)
        have T3 := Lib.hid (And.intro hB (And.intro hI hT.hm))
        clear hT hB hI S
        go_wp2_with fail
        refine LI.out.mono ?_
        rintro e w3 ⟨lv, S, rfl, hrow, hli, hb3⟩
        obtain ⟨la, lc, rfl, -, -⟩ := hrow.len
        obtain ⟨ln, hln⟩ : ∃ ln, ln = S.length := ⟨_, rfl⟩
        rw [← hln] at hrow ⊢
        have LN := Lib.hid hln
        have hl61 : ln ≤ 61 := by have := hli.n; have := SZ.out; omega
        have W3 : Hid (Row kBv w3 (.slice la ln lc) S ∧ Li D3 S ∧ Iv D3 ∧ Below w.heap.size w w3 ∧ L.HasM w3) := Lib.hid ⟨hrow, hli, T3.out.2.1, T3.out.1.trans (hb3.mono T3.out.1.size), T3.out.2.2.below hb3⟩
        have L1 : Hid ((([] : List Bv).length + S.length) * kBv.b ≤ 140737488355328) := Lib.hid (by rw [← hln]; show (0 + ln) * 56 ≤ _; omega)
        clear hrow hli hb3 hln LI T3 SZ G hlt gin
        go_wp2_with (at_builtin; refine app_rows okBv (B := w3.heap.size) (v := .slice none 0 0) (u := .slice la ln lc) (l := []) (m := S) rfl _ _ rfl rfl (OwnR.nil _ _ _) (Nat.le_refl _) rfl W3.out.1 L1.out ?_; intro v4 w4 h4 g4; rw [List.nil_append] at h4; obtain ⟨n4, ma, mc, rfl⟩ : ∃ n1 a1 c1, v4 = .slice a1 n1 c1 := by (obtain ⟨a', c', e'⟩ := h4.slice; exact ⟨_, a', c', e'⟩))
        have M4 : Hid (OwnR kBv w3.heap.size w4 (.slice ma n4 mc) S ∧ Below w3.heap.size w3 w4) := Lib.hid ⟨h4, (Below.refl _ w3).grown g4 (Nat.le_refl _) (fun j hj => by simp [Value.ownBlock] at hj)⟩
        have EN : n4 = ln := by obtain ⟨a', c', e'⟩ := M4.out.1.slice; simp only [Value.slice.injEq] at e'; rw [LN.out]; exact e'.2.1
        subst EN
        clear h4 g4 L1
        go_wp2_with fail
        go_loopg [9, 10, 11] n9 (fun gk si _ _ wr => ∃ j : Nat, j ≤ n9 ∧ gk = n9 - j ∧ si = .int .i64 j ∧ Hid (∃ M, OwnR kBv w3.heap.size wr (.slice ma n4 mc) M ∧ M.Perm S ∧ Below w3.heap.size w3 wr))
        case atStart => exact ⟨0, Nat.zero_le _, rfl, rfl, Lib.hid ⟨S, M4.out.1, List.Perm.refl _, M4.out.2⟩⟩
        case round =>
          clear M4
          obtain ⟨j, hj, hg, rfl, R⟩ := hrel
          have G := Lib.hid hg
          clear hg
          go_upto_region 11 with fail
          go_cut [49] from 41 to 49 (fun sb wx => sb = .bool (decide (j < n9 ∧ 0 < n4)) ∧ wr = wx)
          case first =>
            by_cases ean : j < n9
            · have eae : (j : Int) < (n9 : Int) := by omega
              have eab : decide ((j : Int) < (n9 : Int)) = true := decide_eq_true eae
              have eac : decide (j < n9) = true := decide_eq_true ean
              by_cases ebn : 0 < n4
              · have ebe : (n4 : Int) > 0 := by omega
                have ebb : decide ((n4 : Int) > 0) = true := decide_eq_true ebe
                have ebc : decide (0 < n4) = true := decide_eq_true ebn
                go_wp2_with fail
                go_meet
                case rel => exact ⟨by rw [decide_eq_true (show j < n9 ∧ 0 < n4 from ⟨ean, ebn⟩)], rfl⟩
              · have ebe : ¬ (n4 : Int) > 0 := by omega
                have ebb : decide ((n4 : Int) > 0) = false := decide_eq_false ebe
                have ebc : decide (0 < n4) = false := decide_eq_false ebn
                go_wp2_with fail
                go_meet
                case rel => exact ⟨by rw [decide_eq_false (show ¬ (j < n9 ∧ 0 < n4) from fun z => ebn z.2)], rfl⟩
            · have eae : ¬ (j : Int) < (n9 : Int) := by omega
              have eab : decide ((j : Int) < (n9 : Int)) = false := decide_eq_false eae
              have eac : decide (j < n9) = false := decide_eq_false ean
              go_wp2_with fail
              go_meet
              case rel => exact ⟨by rw [decide_eq_false (show ¬ (j < n9 ∧ 0 < n4) from fun z => ean z.1)], rfl⟩
          case rest =>
            obtain ⟨rfl, rfl⟩ := hcut
            by_cases hlt : j < n9 ∧ 0 < n4
            · have gin : decide (j < n9 ∧ 0 < n4) = true := decide_eq_true hlt
              obtain ⟨h1, h2⟩ := hlt
              have h1' : (j : Int) < (n9 : Int) := by omega
              obtain ⟨M, hM, hP, hB⟩ := R.out
              have RM := Lib.hid (And.intro hM (And.intro hP hB))
              obtain ⟨ob, oo, rfl, oc⟩ := rowI_at (HO.out.below (W3.out.2.2.2.1.trans (hB.mono W3.out.2.2.2.1.size))) j (by rw [← HN9.out]; exact h1)
              clear hM hP hB R
              obtain ⟨y, hy⟩ : ∃ y, y = os.getD j 0 := ⟨_, rfl⟩
              rw [← hy] at oc
              clear hy
              have LM : Hid (n4 = M.length) := Lib.hid (by rw [LN.out]; exact RM.out.2.1.length_eq.symm)
              obtain ⟨ax, hax⟩ : ∃ ax, ax = mk y 10 % n4 := ⟨_, rfl⟩
              obtain ⟨cx, hcx⟩ : ∃ cx, cx = j % n4 := ⟨_, rfl⟩
              have hand := and_1023 y
              have hr1 : Int.tmod (mk y 10 : Int) (n4 : Int) = (ax : Int) := by rw [hax]; exact (Int.ofNat_tmod _ _).symm
              have hr2 : Int.tmod (j : Int) (n4 : Int) = (cx : Int) := by rw [hcx]; exact (Int.ofNat_tmod _ _).symm
              have hax1 : ax < n4 := by rw [hax]; exact Nat.mod_lt _ h2
              have hcx1 : cx < n4 := by rw [hcx]; exact Nat.mod_lt _ h2
              clear hax hcx
              generalize mk y 10 = z10 at hand hr1
              have hnz : ¬ (n4 : Int) = 0 := by omega
              have hnz' : ((n4 : Int) == 0) = false := by rw [beq_eq_false_iff_ne]; exact hnz
              have hw1 : IntKind.i64.wrap (ax : Int) = (ax : Int) := by rw [IntKind.wrap_i64]; omega
              have hw2 : IntKind.i64.wrap (cx : Int) = (cx : Int) := by rw [IntKind.wrap_i64]; omega
              have ha0 : (0 : Int) ≤ (ax : Int) := by omega
              have hc0 : (0 : Int) ≤ (cx : Int) := by omega
              have ha1 : (ax : Int) < (n4 : Int) := by omega
              have hc1 : (cx : Int) < (n4 : Int) := by omega
              have hil : ax < M.length := by rw [← LM.out]; exact hax1
              have hcl : cx < M.length := by rw [← LM.out]; exact hcx1
              obtain ⟨gm, off, rfl, s0, s1, s2, s3⟩ := row_atB (RM.out.1.row okBv) ax hil
              have hof : off = 0 := by
                obtain ⟨_, ⟨hv, _⟩ | ⟨gg, cap', cur, hv, _⟩⟩ := RM.out.1
                · simp at hv
                · simp only [Value.slice.injEq, Option.some.injEq, Addr.mk.injEq, and_true] at hv
                  exact hv.1.2
              subst hof
              simp only [Nat.zero_add] at s0 s1 s2 s3
              obtain ⟨ya, hya⟩ : ∃ y, y = M.getD ax Bv.z := ⟨_, rfl⟩
              obtain ⟨yc, hyc⟩ : ∃ y, y = M.getD cx Bv.z := ⟨_, rfl⟩
              rw [← hya] at s0 s1 s2 s3
              obtain ⟨xa, hxa⟩ : ∃ x : Bd, ya.1 = x := ⟨_, rfl⟩
              obtain ⟨xc, hxc⟩ : ∃ x : Bd, yc.1 = x := ⟨_, rfl⟩
              rw [hxa] at s0 s1 s2 s3
              obtain ⟨ap, an, az, av⟩ := xa
              obtain ⟨cp, cn, cz, cv⟩ := xc
              simp only at s0 s1 s2 s3
              obtain ⟨gx, hgx⟩ : ∃ g, g = wr.heap.size := ⟨_, rfl⟩
              obtain ⟨X, hX⟩ : ∃ X, X = wr.alloc (.cells #[.string ap, .string an, .string az, .int .i64 av] 28) := ⟨_, rfl⟩
              have AX : Hid (Below wr.heap.size wr X ∧ X.heap[gx]? = some (.cells #[.string ap, .string an, .string az, .int .i64 av] 28 (0, 0)) ∧ gm < gx) := Lib.hid ⟨by rw [hX]; exact (Below.refl _ _).alloc (Nat.le_refl _) _, by rw [hX, hgx, heap_alloc_new], by rw [hgx]; exact (RM.out.1.lt gm rfl).2⟩
              have OX : Hid (OwnR kBv w3.heap.size X (.slice (some ⟨gm, 0, none⟩) n4 mc) M) := Lib.hid (RM.out.1.below AX.out.1)
              obtain ⟨b', off', eg, t0, t1, t2, t3⟩ := row_atB (OX.out.row okBv) cx hcl
              simp only [Option.some.injEq, Addr.mk.injEq, and_true] at eg
              obtain ⟨rfl, rfl⟩ := eg
              simp only [Nat.zero_add] at t0 t1 t2 t3
              rw [← hyc, hxc] at t0 t1 t2 t3
              simp only at t0 t1 t2 t3
              obtain ⟨b', off', eg, r0, r1, r2, r3⟩ := row_atB (OX.out.row okBv) ax hil
              simp only [Option.some.injEq, Addr.mk.injEq, and_true] at eg
              obtain ⟨rfl, rfl⟩ := eg
              simp only [Nat.zero_add] at r0 r1 r2 r3
              obtain ⟨cur, -, -, hg, -⟩ := OX.out.parts
              have f0 := frozen_row hg (ax * 4)
              have f1 := frozen_row hg (ax * 4 + 1)
              have f2 := frozen_row hg (ax * 4 + 2)
              have f3 := frozen_row hg (ax * 4 + 3)
              clear hg
              have hX' := hX.symm
              have hgx' := hgx.symm
              have YA := Lib.hid (And.intro hya (And.intro hyc (And.intro hxa hxc)))
              clear hX hgx hya hyc hxa hxc
              go_upto_region 16 with fail
              obtain ⟨Y, hY⟩ : ∃ Y, Y = ((((X.setCell ⟨gm, ax * 4, none⟩ (.string cp)).setCell ⟨gm, ax * 4 + 1, none⟩ (.string cn)).setCell ⟨gm, ax * 4 + 2, none⟩ (.string cz)).setCell ⟨gm, ax * 4 + 3, none⟩ (.int .i64 cv)) := ⟨_, rfl⟩
              rw [← hY]
              have OY : Hid (OwnR kBv w3.heap.size Y (.slice (some ⟨gm, 0, none⟩) n4 mc) (M.set ax yc) ∧ Y.heap[gx]? = some (.cells #[.string ap, .string an, .string az, .int .i64 av] 28 (0, 0)) ∧ Below w3.heap.size w3 Y) := Lib.hid (by
                have k4 : Kept (fun y => y = gm) X Y := by
                  rw [hY]
                  exact kept_four X gm _ _ _ _ _ _ _ _
                have h := own_setB OX.out ax hil yc
                rw [YA.out.2.2.2] at h
                have hb0 : Below w3.heap.size w3 X := RM.out.2.2.trans (AX.out.1.mono RM.out.2.2.size)
                refine ⟨by rw [hY]; exact h, (k4.block gx (lt_of_some AX.out.2.1) (fun e => by have := AX.out.2.2; omega)).trans AX.out.2.1, hb0.trans (k4.below hb0.size (fun x e => by rw [e]; exact (OX.out.lt gm rfl).1))⟩)
              have hlY : cx < (M.set ax yc).length := by rw [List.length_set]; exact hcl
              obtain ⟨b', off', eg, z0, z1, z2, z3⟩ := row_atB (OY.out.1.row okBv) cx hlY
              simp only [Option.some.injEq, Addr.mk.injEq, and_true] at eg
              obtain ⟨rfl, rfl⟩ := eg
              simp only [Nat.zero_add] at z0 z1 z2 z3
              obtain ⟨xd, hxd⟩ : ∃ x : Bd, ((M.set ax yc).getD cx Bv.z).1 = x := ⟨_, rfl⟩
              rw [hxd] at z0 z1 z2 z3
              clear hxd
              obtain ⟨dp, dn, dz, dv⟩ := xd
              simp only at z0 z1 z2 z3
              have FZ : Hid (∀ j, Y.frozen? ⟨gm, j, none⟩ = false) := Lib.hid (fun j => by obtain ⟨cur, -, -, h, -⟩ := OY.out.1.parts; exact frozen_row h j)
              have ta0 : Y.cell? ⟨gm, cx * 4, none⟩ = some (.string dp) := z0
              have ta0' : Y.drew.cell? ⟨gm, cx * 4, none⟩ = some (.string dp) := z0
              have ta1 : ∀ u, (Y.setCell ⟨gm, cx * 4, none⟩ u).cell? ⟨gm, cx * 4 + 1, none⟩ = some (.string dn) := fun u => by
                rw [World.cell?_setCell_other Y ⟨gm, cx * 4, none⟩ ⟨gm, cx * 4 + 1, none⟩ _ (by intro e; injection e with e1 e2; omega)]; exact z1
              have ta2 : ∀ u v, ((Y.setCell ⟨gm, cx * 4, none⟩ u).setCell ⟨gm, cx * 4 + 1, none⟩ v).cell? ⟨gm, cx * 4 + 2, none⟩ = some (.string dz) := fun u v => by
                rw [World.cell?_setCell_other _ ⟨gm, cx * 4 + 1, none⟩ ⟨gm, cx * 4 + 2, none⟩ _ (by intro e; injection e with e1 e2; omega), World.cell?_setCell_other Y ⟨gm, cx * 4, none⟩ ⟨gm, cx * 4 + 2, none⟩ _ (by intro e; injection e with e1 e2; omega)]; exact z2
              have ta3 : ∀ u v x, (((Y.setCell ⟨gm, cx * 4, none⟩ u).setCell ⟨gm, cx * 4 + 1, none⟩ v).setCell ⟨gm, cx * 4 + 2, none⟩ x).cell? ⟨gm, cx * 4 + 3, none⟩ = some (.int .i64 dv) := fun u v x => by
                rw [World.cell?_setCell_other _ ⟨gm, cx * 4 + 2, none⟩ ⟨gm, cx * 4 + 3, none⟩ _ (by intro e; injection e with e1 e2; omega), World.cell?_setCell_other _ ⟨gm, cx * 4 + 1, none⟩ ⟨gm, cx * 4 + 3, none⟩ _ (by intro e; injection e with e1 e2; omega), World.cell?_setCell_other Y ⟨gm, cx * 4, none⟩ ⟨gm, cx * 4 + 3, none⟩ _ (by intro e; injection e with e1 e2; omega)]; exact z3
              have tf0 : Y.frozen? ⟨gm, cx * 4, none⟩ = false := FZ.out _
              have tf0' : Y.drew.frozen? ⟨gm, cx * 4, none⟩ = false := FZ.out _
              have tf1 : ∀ u, (Y.setCell ⟨gm, cx * 4, none⟩ u).frozen? ⟨gm, cx * 4 + 1, none⟩ = false := fun u => by rw [World.frozen?_setCell]; exact FZ.out _
              have tf2 : ∀ u v, ((Y.setCell ⟨gm, cx * 4, none⟩ u).setCell ⟨gm, cx * 4 + 1, none⟩ v).frozen? ⟨gm, cx * 4 + 2, none⟩ = false := fun u v => by rw [World.frozen?_setCell, World.frozen?_setCell]; exact FZ.out _
              have tf3 : ∀ u v x, (((Y.setCell ⟨gm, cx * 4, none⟩ u).setCell ⟨gm, cx * 4 + 1, none⟩ v).setCell ⟨gm, cx * 4 + 2, none⟩ x).frozen? ⟨gm, cx * 4 + 3, none⟩ = false := fun u v x => by rw [World.frozen?_setCell, World.frozen?_setCell, World.frozen?_setCell]; exact FZ.out _
              have v0 : Y.cell? ⟨gx, 0, none⟩ = some (.string ap) := cell_of_row _ _ 0 _ _ _ OY.out.2.1
              have v1 : Y.cell? ⟨gx, 1, none⟩ = some (.string an) := cell_of_row _ _ 1 _ _ _ OY.out.2.1
              have v2 : Y.cell? ⟨gx, 2, none⟩ = some (.string az) := cell_of_row _ _ 2 _ _ _ OY.out.2.1
              have v3 : Y.cell? ⟨gx, 3, none⟩ = some (.int .i64 av) := cell_of_row _ _ 3 _ _ _ OY.out.2.1
              have v0' : Y.drew.cell? ⟨gx, 0, none⟩ = some (.string ap) := v0
              have v1' : Y.drew.cell? ⟨gx, 1, none⟩ = some (.string an) := v1
              have v2' : Y.drew.cell? ⟨gx, 2, none⟩ = some (.string az) := v2
              have v3' : Y.drew.cell? ⟨gx, 3, none⟩ = some (.int .i64 av) := v3
              clear hY s0 s1 s2 s3 t0 t1 t2 t3 r0 r1 r2 r3 f0 f1 f2 f3 z0 z1 z2 z3
              go_region
              obtain ⟨Z, hZ⟩ : ∃ Z, Z = (((((Y.setCell ⟨gm, cx * 4, none⟩ (.string ap)).setCell ⟨gm, cx * 4 + 1, none⟩ (.string an)).setCell ⟨gm, cx * 4 + 2, none⟩ (.string az)).setCell ⟨gm, cx * 4 + 3, none⟩ (.int .i64 av)).drew) := ⟨_, rfl⟩
              rw [← hZ]
              have FN : Hid (∃ M, OwnR kBv w3.heap.size Z (.slice (some ⟨gm, 0, none⟩) n4 mc) M ∧ M.Perm S ∧ Below w3.heap.size w3 Z) := Lib.hid (by
                have h := own_setB OY.out.1 cx hlY ya
                rw [YA.out.2.2.1] at h
                obtain ⟨V, hV⟩ : ∃ V, V = ((((Y.setCell ⟨gm, cx * 4, none⟩ (.string ap)).setCell ⟨gm, cx * 4 + 1, none⟩ (.string an)).setCell ⟨gm, cx * 4 + 2, none⟩ (.string az)).setCell ⟨gm, cx * 4 + 3, none⟩ (.int .i64 av)) := ⟨_, rfl⟩
                have k4 : Kept (fun y => y = gm) Y V := by rw [hV]; exact kept_four Y gm _ _ _ _ _ _ _ _
                have hVo : OwnR kBv w3.heap.size V (.slice (some ⟨gm, 0, none⟩) n4 mc) ((M.set ax yc).set cx ya) := by rw [hV]; exact h
                have hd : Below V.heap.size V V.drew := (Below.refl _ V).drew
                have hbV : Below w3.heap.size w3 V := OY.out.2.2.trans (k4.below OY.out.2.2.size (fun x e => by rw [e]; exact (OY.out.1.lt gm rfl).1))
                rw [← hV] at hZ
                rw [hZ]
                refine ⟨_, hVo.below hd, ?_, hbV.trans (hd.mono hbV.size)⟩
                have hp := swl_perm M ax cx hil hcl
                unfold swl at hp
                rw [← YA.out.1, ← YA.out.2.1] at hp
                exact hp.trans RM.out.2.1)
              clear hZ ta0 ta0' ta1 ta2 ta3 tf0 tf0' tf1 tf2 tf3 v0 v1 v2 v3 v0' v1' v2' v3'
              go_wp2_with fail
              go_roundg (n9 - (j + 1))
              case measure => have := G.out; omega
              case rel => exact ⟨j + 1, by omega, rfl, by go_num, FN⟩
            · have gin : decide (j < n9 ∧ 0 < n4) = false := decide_eq_false hlt
              obtain ⟨M, hM, hP, hB⟩ := R.out
              have RM := Lib.hid (And.intro hM (And.intro hP hB))
              clear hM hP hB R
              have LM : Hid (n4 = M.length) := Lib.hid (by rw [LN.out]; exact RM.out.2.1.length_eq.symm)
              have OF := Lib.hid (of_any M M.length _ wr (W3.out.2.2.2.2.below RM.out.2.2) (RM.out.1.row okBv) (og_perm W3.out.2.1 W3.out.2.2.1 RM.out.2.1) (by have := LM.out; omega))
              go_wp2_with fail
              refine OF.out.mono ?_
              rintro e w5 ⟨hb5, ⟨-, t5, b5, n5, D5, rfl, hT5, hn5, -, hI5⟩ | ⟨hbad, -⟩⟩
              case inr => exact absurd hbad (Nat.lt_irrefl _)
              have IF : Hid (∀ x, InD D5 x ↔ InD D3 x) := Lib.hid fun x => by
                rw [hI5 x, ← W3.out.2.1.m x]
                exact ⟨fun ⟨y, hy, e⟩ => ⟨y, RM.out.2.1.mem_iff.1 hy, e⟩, fun ⟨y, hy, e⟩ => ⟨y, RM.out.2.1.mem_iff.2 hy, e⟩⟩
              have W5 : Hid (Below w3.heap.size w3 w5 ∧ OwnR kBv w3.heap.size w5 (.slice ma n4 mc) M) := Lib.hid ⟨RM.out.2.2.trans (hb5.mono RM.out.2.2.size), RM.out.1.below hb5⟩
              have LI := Lib.hid (list_any w5 t5 b5 n5 D5 hT5 (by have := LM.out; omega) (fun x hx => W3.out.2.2.1.vl x ((IF.out x).1 hx)))
              clear hT5 hI5 hb5 OF
              go_wp2_with fail
              refine LI.out.mono ?_
              rintro e w6 ⟨v6, S6, rfl, hrow6, hli6, hb6⟩
              obtain rfl : S6 = S := hli6.one W3.out.2.1 IF.out
              have W6 : Hid (Below w3.heap.size w3 w6 ∧ OwnR kBv w3.heap.size w6 (.slice ma n4 mc) M) := Lib.hid ⟨W5.out.1.trans (hb6.mono W5.out.1.size), W5.out.2.below hb6⟩
              have SY := Lib.hid (sameBindings_yes v6 (.slice la n4 lc) S6 w6 hrow6 (W3.out.1.below W6.out.1))
              clear hrow6 hli6 hb6 LI W5
              go_wp2_with fail
              refine SY.out.mono ?_
              rintro e w7 ⟨rfl, hb7⟩
              have W7 : Hid (Below w3.heap.size w3 w7 ∧ OwnR kBv w3.heap.size w7 (.slice ma n4 mc) M) := Lib.hid ⟨W6.out.1.trans (hb7.mono W6.out.1.size), W6.out.2.below hb7⟩
              clear hb7 SY W6 IF
              go_wp2_with fail
              go_loopg [14, 15] n4 (fun gk sa si wr => ∃ (k at0 : Nat), k ≤ n4 ∧ gk = n4 - k ∧ sa = .int .i64 at0 ∧ si = .int .i64 k ∧ at0 ≤ 16 ∧ Hid ((at0 ≤ if k = 0 then 0 else cntP (S6.getD (k - 1) Bv.z).1.p (S6.take k)) ∧ Below w7.heap.size w7 wr))
              case atStart => exact ⟨0, 0, Nat.zero_le _, rfl, rfl, rfl, by omega, Lib.hid ⟨by simp, Below.refl _ _⟩⟩
              case round =>
                obtain ⟨k, at0, hk, hgk, rfl, rfl, hat, Q⟩ := hrel
                have G2 := Lib.hid hgk
                clear hgk
                by_cases hkn : k < n4
                · have hkn' : (k : Int) < (n4 : Int) := by omega
                  have hkS : k < S6.length := by rw [← LN.out]; exact hkn
                  have ST := Lib.hid (run_step hkS Q.out.1)
                  have CT : Hid (cntP (S6.getD k Bv.z).1.p (S6.take (k + 1)) ≤ 16) := Lib.hid (Nat.le_trans (cnt_take _ _ _) (W3.out.2.2.1.c _ _ (cnt_cn W3.out.2.1 _)))
                  by_cases k0 : k = 0
                  · subst k0
                    obtain rfl : at0 = 0 := by have := Q.out.1; simpa using this
                    have T1 : Hid (1 ≤ cntP (S6.getD 0 Bv.z).1.p (S6.take 1)) := Lib.hid (by have := ST.out; simpa using this)
                    clear ST CT
                    go_wp2_with fail
                    go_quiet (fail)
                    go_wp2_with fail
                    go_quiet (fail)
                    go_wp2_with fail
                    go_roundg (n4 - 1)
                    case measure => have := G2.out; omega
                    case rel => exact ⟨1, 1, by omega, rfl, rfl, rfl, by omega, Lib.hid ⟨by rw [if_neg (by omega)]; exact T1.out, Q.out.2.trans ((below_drawn wr _).mono Q.out.2.size)⟩⟩
                  · obtain ⟨q, rfl⟩ : ∃ q, k = q + 1 := ⟨k - 1, by omega⟩
                    have RW := Lib.hid (W3.out.1.below (W7.out.1.trans (Q.out.2.mono W7.out.1.size)))
                    have LT : Hid (ltOf cV (S6.getD q Bv.z) (S6.getD (q + 1) Bv.z) = true) := Lib.hid (by
                      have h := W3.out.2.1.rises
                      rw [List.getD_eq_getElem?_getD, List.getD_eq_getElem?_getD, List.getElem?_eq_getElem hkS, List.getElem?_eq_getElem (show q < S6.length by omega)]
                      exact List.pairwise_iff_getElem.1 h q (q + 1) (by omega) hkS (by omega))
                    obtain ⟨bb, off, rfl, c0, c1, c2, c3⟩ := row_atB RW.out (q + 1) hkS
                    obtain ⟨b', off', eg, d0, d1, d2, d3⟩ := row_atB RW.out q (by omega)
                    simp only [Option.some.injEq, Addr.mk.injEq, and_true] at eg
                    obtain ⟨rfl, rfl⟩ := eg
                    have RQ0 := Lib.hid (fun W hm => rises_yes (S6.getD q Bv.z) (S6.getD (q + 1) Bv.z) W hm LT.out)
                    rw [Nat.add_sub_cancel] at ST
                    obtain ⟨x, hx⟩ : ∃ x : Bd, (S6.getD (q + 1) Bv.z).1 = x := ⟨_, rfl⟩
                    obtain ⟨y, hy⟩ : ∃ x : Bd, (S6.getD q Bv.z).1 = x := ⟨_, rfl⟩
                    have XX := Lib.hid hx
                    rw [hx] at c0 c1 c2 c3 RQ0 ST CT
                    rw [hy] at d0 d1 d2 d3 RQ0 ST
                    clear hx hy LT
                    obtain ⟨xp, xn, xs, xv⟩ := x
                    obtain ⟨yp, yn, ys, yv⟩ := y
                    simp only at c0 c1 c2 c3 d0 d1 d2 d3 ST CT
                    simp only [Bd.val] at RQ0
                    have RQG : Hid (∀ U : World, Below wr.heap.size wr U → ∀ (dq : Nat) (os : Array Obj), Calls Tryd.prog 9 #[.agg #[.string yp, .string yn, .string ys, .int .i64 yv], .agg #[.string xp, .string xn, .string xs, .int .i64 xv]] (Go.Sort.grow (redrawn U dq) os) fun e w'' => e = .returned (.bool true) ∧ ∃ p : Regrown, w'' = Go.Sort.grow (redrawn U p.d) p.os) := Lib.hid (fun U hU dq os => Calls.regrown_of (RQ0.out _ (((W3.out.2.2.2.2.below (W7.out.1.trans (Q.out.2.mono W7.out.1.size))).below hU).below (below_regrown U dq os))))
                    have CU : Hid (∀ U : World, Below wr.heap.size wr U → ∀ ad z, wr.cell? ad = some z → U.cell? ad = some z) := Lib.hid fun U hU ad z h => (hU.cell (block_lt_of_cell h)).trans h
                    have hp1 : (0 : Int) < (q : Int) + 1 := by omega
                    have hp2 : IntKind.i64.wrap ((q : Int) + 1 - 1) = (q : Int) := by rw [IntKind.wrap_i64]; omega
                    have hp3 : (q : Int) + 1 > 0 := by omega
                    have hqn : (q : Int) < (n4 : Int) := by omega
                    have hqn2 : (q : Int) + 1 < (n4 : Int) := by omega
                    have nn1 : decide ((q : Int) < 0) = false := decide_eq_false (by omega)
                    have nn2 : decide ((q : Int) + 1 < 0) = false := decide_eq_false (by omega)
                    clear RQ0
                    by_cases he : xp = yp
                    · subst he
                      have g1 : (xp.toList == xp.toList) = true := beq_self_eq_true _
                      have g2 : (xp.toList != xp.toList) = false := bne_self_eq_false _
                      have AT : Hid (at0 + 1 ≤ cntP xp (S6.take (q + 1 + 1))) := Lib.hid (by have := ST.out; simpa using this)
                      obtain ⟨an, han⟩ : ∃ an, an = at0 + 1 := ⟨_, rfl⟩
                      rw [← han] at AT
                      have han16 : an ≤ 16 := by have := CT.out; have := AT.out; omega
                      go_wp2_with fail
                      go_quiet (fail)
                      go_wp2_with fail
                      obtain ⟨U, hU⟩ : ∃ U, wr.drewN nq = U := ⟨_, rfl⟩
                      have BU : Hid (Below wr.heap.size wr U) := Lib.hid (by rw [← hU]; exact below_drawn wr _)
                      rw [hU]
                      clear hU
                      have RQ := Lib.hid (RQG.out U BU.out)
                      have e0 : ∀ (dq : Nat) (os : Array Obj), (Go.Sort.grow (redrawn U dq) os).cell? ⟨bb, off + (q + 1) * 4, none⟩ = some (.string xp) := fun dq os => cell_regrown (CU.out U BU.out _ _ c0) dq os
                      have e1 : ∀ (dq : Nat) (os : Array Obj), (Go.Sort.grow (redrawn U dq) os).cell? ⟨bb, off + (q + 1) * 4 + 1, none⟩ = some (.string xn) := fun dq os => cell_regrown (CU.out U BU.out _ _ c1) dq os
                      have e2 : ∀ (dq : Nat) (os : Array Obj), (Go.Sort.grow (redrawn U dq) os).cell? ⟨bb, off + (q + 1) * 4 + 2, none⟩ = some (.string xs) := fun dq os => cell_regrown (CU.out U BU.out _ _ c2) dq os
                      have e3 : ∀ (dq : Nat) (os : Array Obj), (Go.Sort.grow (redrawn U dq) os).cell? ⟨bb, off + (q + 1) * 4 + 3, none⟩ = some (.int .i64 xv) := fun dq os => cell_regrown (CU.out U BU.out _ _ c3) dq os
                      have h0 : ∀ (dq : Nat) (os : Array Obj), (Go.Sort.grow (redrawn U dq) os).cell? ⟨bb, off + q * 4, none⟩ = some (.string xp) := fun dq os => cell_regrown (CU.out U BU.out _ _ d0) dq os
                      have h1 : ∀ (dq : Nat) (os : Array Obj), (Go.Sort.grow (redrawn U dq) os).cell? ⟨bb, off + q * 4 + 1, none⟩ = some (.string yn) := fun dq os => cell_regrown (CU.out U BU.out _ _ d1) dq os
                      have h2 : ∀ (dq : Nat) (os : Array Obj), (Go.Sort.grow (redrawn U dq) os).cell? ⟨bb, off + q * 4 + 2, none⟩ = some (.string ys) := fun dq os => cell_regrown (CU.out U BU.out _ _ d2) dq os
                      have h3 : ∀ (dq : Nat) (os : Array Obj), (Go.Sort.grow (redrawn U dq) os).cell? ⟨bb, off + q * 4 + 3, none⟩ = some (.int .i64 yv) := fun dq os => cell_regrown (CU.out U BU.out _ _ d3) dq os
                      have hg16 : decide ((at0 : Int) + 1 > 16) = false := decide_eq_false (by omega)
                      have hg17 : ¬ (at0 : Int) + 1 > 16 := by omega
                      clear c0 c1 c2 c3 d0 d1 d2 d3
                      refine wp_region_quiet_below (by kernel_rfl) (by kernel_rfl) ?_
                      repeat (go_big_quiet_step (with_reducible exact RQ.out _ _))
                      refine wpQuiet_nil ?_
                      intro _ hw'
                      obtain ⟨⟨dq, osq⟩, hw''⟩ := hw'
                      subst hw''
                      have XB : Hid (Below w7.heap.size w7 (Go.Sort.grow (redrawn U dq) osq)) := Lib.hid (by
                        have h1 := Q.out.2.trans (BU.out.mono Q.out.2.size)
                        exact h1.trans ((below_regrown U dq osq).mono h1.size))
                      go_wp2_with fail
                      go_roundg (n4 - (q + 1 + 1))
                      case measure => have := G2.out; omega
                      case rel => exact ⟨q + 1 + 1, an, by omega, rfl, by first | rfl | (rw [han]; rfl) | (rw [han]; go_num), by go_num, han16, Lib.hid ⟨by rw [if_neg (by omega), Nat.add_sub_cancel, XX.out]; exact AT.out, XB.out⟩⟩
                    · have g1 := teq_no he
                      have g2 : (xp.toList != yp.toList) = true := by rw [bne, g1]; rfl
                      obtain ⟨an, han⟩ : ∃ an, an = 1 := ⟨_, rfl⟩
                      have AT : Hid (an ≤ cntP xp (S6.take (q + 1 + 1))) := Lib.hid (by have := ST.out; rw [if_pos ⟨by omega, he⟩] at this; rw [han]; exact this)
                      have han16 : an ≤ 16 := by have := CT.out; have := AT.out; omega
                      go_wp2_with fail
                      go_quiet (fail)
                      go_wp2_with fail
                      obtain ⟨U, hU⟩ : ∃ U, wr.drewN nq = U := ⟨_, rfl⟩
                      have BU : Hid (Below wr.heap.size wr U) := Lib.hid (by rw [← hU]; exact below_drawn wr _)
                      rw [hU]
                      clear hU
                      have RQ := Lib.hid (RQG.out U BU.out)
                      have e0 : ∀ (dq : Nat) (os : Array Obj), (Go.Sort.grow (redrawn U dq) os).cell? ⟨bb, off + (q + 1) * 4, none⟩ = some (.string xp) := fun dq os => cell_regrown (CU.out U BU.out _ _ c0) dq os
                      have e1 : ∀ (dq : Nat) (os : Array Obj), (Go.Sort.grow (redrawn U dq) os).cell? ⟨bb, off + (q + 1) * 4 + 1, none⟩ = some (.string xn) := fun dq os => cell_regrown (CU.out U BU.out _ _ c1) dq os
                      have e2 : ∀ (dq : Nat) (os : Array Obj), (Go.Sort.grow (redrawn U dq) os).cell? ⟨bb, off + (q + 1) * 4 + 2, none⟩ = some (.string xs) := fun dq os => cell_regrown (CU.out U BU.out _ _ c2) dq os
                      have e3 : ∀ (dq : Nat) (os : Array Obj), (Go.Sort.grow (redrawn U dq) os).cell? ⟨bb, off + (q + 1) * 4 + 3, none⟩ = some (.int .i64 xv) := fun dq os => cell_regrown (CU.out U BU.out _ _ c3) dq os
                      have h0 : ∀ (dq : Nat) (os : Array Obj), (Go.Sort.grow (redrawn U dq) os).cell? ⟨bb, off + q * 4, none⟩ = some (.string yp) := fun dq os => cell_regrown (CU.out U BU.out _ _ d0) dq os
                      have h1 : ∀ (dq : Nat) (os : Array Obj), (Go.Sort.grow (redrawn U dq) os).cell? ⟨bb, off + q * 4 + 1, none⟩ = some (.string yn) := fun dq os => cell_regrown (CU.out U BU.out _ _ d1) dq os
                      have h2 : ∀ (dq : Nat) (os : Array Obj), (Go.Sort.grow (redrawn U dq) os).cell? ⟨bb, off + q * 4 + 2, none⟩ = some (.string ys) := fun dq os => cell_regrown (CU.out U BU.out _ _ d2) dq os
                      have h3 : ∀ (dq : Nat) (os : Array Obj), (Go.Sort.grow (redrawn U dq) os).cell? ⟨bb, off + q * 4 + 3, none⟩ = some (.int .i64 yv) := fun dq os => cell_regrown (CU.out U BU.out _ _ d3) dq os
                      have hg16 : decide ((1 : Int) > 16) = false := decide_eq_false (by omega)
                      have hg17 : ¬ (1 : Int) > 16 := by omega
                      clear c0 c1 c2 c3 d0 d1 d2 d3
                      refine wp_region_quiet_below (by kernel_rfl) (by kernel_rfl) ?_
                      repeat (go_big_quiet_step (with_reducible exact RQ.out _ _))
                      refine wpQuiet_nil ?_
                      intro _ hw'
                      obtain ⟨⟨dq, osq⟩, hw''⟩ := hw'
                      subst hw''
                      have XB : Hid (Below w7.heap.size w7 (Go.Sort.grow (redrawn U dq) osq)) := Lib.hid (by
                        have h1 := Q.out.2.trans (BU.out.mono Q.out.2.size)
                        exact h1.trans ((below_regrown U dq osq).mono h1.size))
                      go_wp2_with fail
                      go_roundg (n4 - (q + 1 + 1))
                      case measure => have := G2.out; omega
                      case rel => exact ⟨q + 1 + 1, an, by omega, rfl, by first | rfl | (rw [han]; rfl) | (rw [han]; go_num), by go_num, han16, Lib.hid ⟨by rw [if_neg (by omega), Nat.add_sub_cancel, XX.out]; exact AT.out, XB.out⟩⟩
                · have hkn' : ¬ (k : Int) < (n4 : Int) := by omega
                  have OM : Hid (OwnR kBv w3.heap.size wr (.slice ma n4 mc) M ∧ Below w3.heap.size w3 wr) := Lib.hid ⟨W7.out.2.below Q.out.2, W7.out.1.trans (Q.out.2.mono W7.out.1.size)⟩
                  by_cases hz : 0 < n4
                  · have hz' : (n4 : Int) > 0 := by omega
                    have h0S : 0 < S6.length := by rw [← LN.out]; exact hz
                    obtain ⟨bb, off, rfl, c0, c1, c2, c3⟩ := row_atB (W3.out.1.below OM.out.2) 0 h0S
                    simp only [Nat.zero_mul, Nat.add_zero] at c0 c1 c2 c3
                    obtain ⟨x, hx⟩ : ∃ x : Bd, (S6.getD 0 Bv.z).1 = x := ⟨_, rfl⟩
                    have PV : Hid ((L.splitO x.p).isSome = true) := Lib.hid (by rw [← hx]; exact (S6.getD 0 Bv.z).2)
                    have XX : Hid (Bv.mk x PV.out = S6.getD 0 Bv.z) := Lib.hid (Subtype.ext hx.symm)
                    rw [hx] at c0 c1 c2 c3
                    clear hx
                    obtain ⟨p, q, s, m⟩ := x
                    simp only at c0 c1 c2 c3
                    have LZ : Hid ((M.length + 1) * kBv.b ≤ 140737488355328) := Lib.hid (by rw [← LM.out]; show (_ + 1) * 56 ≤ _; omega)
                    have OG := Lib.hid (og_more W3.out.2.1 W3.out.2.2.1 RM.out.2.1 h0S)
                    have DN : Hid (L.HasM w3) := Lib.hid W3.out.2.2.2.2
                    go_wp2_with (at_builtin; refine app_rowB okBv (gg := wr.heap.size) rfl _ _ rfl rfl OM.out.1 OM.out.2.size (Bv.mk ⟨p, q, s, m⟩ PV.out) rfl rfl rfl LZ.out ?_; intro v8 w8 h8 g8; obtain ⟨n8, a8, c8, rfl⟩ : ∃ n1 a1 c1, v8 = .slice a1 n1 c1 := by (obtain ⟨a', c', e'⟩ := h8.slice; exact ⟨_, a', c', e'⟩))
                    have W8 : Hid (OwnR kBv w3.heap.size w8 (.slice a8 n8 c8) (M ++ [S6.getD 0 Bv.z]) ∧ Below w3.heap.size w3 w8) := Lib.hid ⟨by rw [← XX.out]; exact h8, OM.out.2.grown g8 OM.out.2.size (fun j hj => (OM.out.1.lt j hj).1)⟩
                    clear h8 g8
                    refine (of_any (M ++ [S6.getD 0 Bv.z]) M.length _ w8 (DN.out.below W8.out.2) (W8.out.1.row okBv) OG.out (by rw [List.length_append, ← LM.out]; show n4 + 1 ≤ _; omega)).mono ?_
                    rintro e w9 ⟨hb9, ⟨hbad, -⟩ | ⟨-, rfl⟩⟩
                    case inl => exact absurd hbad (by rw [List.length_append]; show ¬ M.length + 1 ≤ _; omega)
                    have FN : Hid (Below w.heap.size w w9) := Lib.hid (W3.out.2.2.2.1.trans ((W8.out.2.trans (hb9.mono W8.out.2.size)).mono W3.out.2.2.2.1.size))
                    clear hb9
                    go_wp2_with fail
                    go_ret
                    exact ⟨rfl, FN.out⟩
                  · have hz' : ¬ (n4 : Int) > 0 := by omega
                    have FN : Hid (Below w.heap.size w wr) := Lib.hid (W3.out.2.2.2.1.trans (OM.out.2.mono W3.out.2.2.2.1.size))
                    go_wp2_with fail
                    go_ret
                    exact ⟨rfl, FN.out⟩
end Ac
end Go.Proofs.YtnmabnbfejmmhaaDoor
