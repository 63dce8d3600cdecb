/-
  SpaceApart.
-/
import Derived.Test.YtfdhccanacpanaaPaM
namespace Go.Proofs.Ytfdhccanacpanaa
open Go.RowKit
set_option maxRecDepth 100000 in
set_option maxHeartbeats 8000000 in
theorem spaceApart_walk (n : Int) (v : Value) (ms : List Bool) (w : World) (_hn : -9223372036854775808 ≤ n ∧ n < 9223372036854775808)
    (hv : Bools w v ms) (_hl : ms.length ≤ 140737488355328) :
    Calls Try.prog 3 #[.int .i64 n, v] w fun e w' => e = .returned (.bool true) ∧ Below w.heap.size w w' := by
  have O := Lib.hid (open_any n _ (and_63 n) (mod64 n) v ms w hv)
  obtain ⟨am, cm, hvm, _⟩ := hv
  subst hvm
  clear _hl _hn
  go_enter Try.func3, Try.ntmps3
  go_wp2_with fail
  refine O.out.mono ?_
  rintro _ w1 ⟨d, sb, rfl, s1, b1⟩
  obtain ⟨M, hM⟩ : ∃ M, M = (n % 64).toNat + 1 := ⟨_, rfl⟩
  rw [← hM] at s1 ⊢
  have hM64 : M ≤ 64 := by rw [hM]; omega
  have S1 := Lib.hid (And.intro s1 b1)
  clear s1 b1 O hM
  go_wp2_with fail
  refine (fixed_any w1).mono ?_
  rintro _ w2 ⟨d2, rfl, b2⟩
  obtain ⟨l, hl⟩ : ∃ l, l = opS M ms := ⟨_, rfl⟩
  have LM : Hid (l.length = M ∧ Com l) := Lib.hid (by rw [hl]; exact ⟨opS_length M ms, opS_com M ms⟩)
  have S2 : Hid (Sp w.heap.size w2 d sb 2 l ∧ Below w.heap.size w w2) := Lib.hid (by rw [hl]; exact ⟨S1.out.1.below b2, S1.out.2.trans (b2.mono S1.out.2.size)⟩)
  obtain ⟨A, hA⟩ : ∃ A, A = those [1, 2] 2 l := ⟨_, rfl⟩
  obtain ⟨K, hK⟩ : ∃ K, K = A.length := ⟨_, rfl⟩
  have AA := Lib.hid hA
  have KK := Lib.hid hK
  have hK64 : K ≤ 64 := by
    have := those_length [1, 2] 2 l
    rw [← hA, ← hK, LM.out.1] at this
    omega
  have TK : Hid (∀ (W : World) (d s : Nat), Sp w.heap.size W d s 2 l → Calls Try.prog 10 #[.pointer (some ⟨d, 0, none⟩)] W fun e w' => ∃ u, e = .returned u ∧ OwnI W.heap.size w' u A ∧ Below W.heap.size W w') := Lib.hid (fun W d s h => by rw [hA]; exact taken_any h)
  clear b2 S1 hl hA hK
  go_wp2_with fail
  refine (TK.out _ _ _ S2.out.1).mono ?_
  rintro _ w3 ⟨u3, rfl, o3, b3⟩
  have S3 : Hid (Sp w.heap.size w3 d sb 2 l ∧ Below w.heap.size w w3 ∧ OwnI w.heap.size w3 u3 A) := Lib.hid ⟨S2.out.1.below b3, S2.out.2.trans (b3.mono S2.out.2.size), o3.mono S2.out.2.size⟩
  clear o3 b3 S2
  go_wp2_with (refine app_new rfl (.tmp 36) (.tmp 37) rfl (m := [171, 172]) rfl rfl S3.out.2.2 S3.out.2.1.size rfl rfl (by rw [← KK.out]; simp; omega) ?_)
  intro v4 w4 o1 o2 o3
  have S4 : Hid (Sp w.heap.size w4 d sb 2 l ∧ Below w.heap.size w w4) := Lib.hid ⟨S3.out.1.grown S3.out.2.2 o2, S3.out.2.1.trans ((Below.refl _ _).grown o2 S3.out.2.1.size fun k hk => (S3.out.2.2.lt k hk).1)⟩
  obtain ⟨g, cap, cur, hv4, hc4, hm4, _⟩ := o1.at (by simp)
  obtain ⟨N6, hN6⟩ : ∃ N6, N6 = (A ++ [171, 172]).length := ⟨_, rfl⟩
  rw [← hN6] at hv4 hc4
  have eN6 : N6 = K + 2 := by rw [hN6, List.length_append, KK.out]; rfl
  subst hv4
  have U4 := Lib.hid o1
  have hk2 : (N6 : Int) - 2 = (K : Int) := by omega
  have hKc : (K : Int) ≤ (cap : Int) := by omega
  have hKc' : K ≤ cap := by omega
  have hK0 : (0 : Int) ≤ (K : Int) := by omega
  have IF : Hid (Ints w4 (.slice (some ⟨g, 0, none⟩) K cap) A) := Lib.hid (by rw [KK.out]; exact o1.ints.front)
  have NW := Lib.hid (new_any 2 M _ A w4 (by omega) IF.out (fun x hx => by
    have := ris_bounds (those_ris [1, 2] 2 l) x (by rw [← AA.out]; exact hx)
    rw [LM.out.1] at this
    omega) (2 + (M : Int)) rfl)
  clear o1 o2 o3 S3 hN6
  go_wp2_with fail
  refine NW.out.mono ?_
  rintro e w5 ⟨h1, -, b5⟩
  obtain ⟨rfl, t5⟩ := h1 (by have := those_ris [1, 2] 2 l; rw [← AA.out, LM.out.1] at this; exact this)
  rw [show mkS 2 M A = l by rw [AA.out]; exact mk_those LM.out.2 LM.out.1] at t5
  obtain ⟨d', hd'⟩ : ∃ d', d' = w4.heap.size + 1 := ⟨_, rfl⟩
  obtain ⟨s', hs'⟩ : ∃ s', s' = w4.heap.size := ⟨_, rfl⟩
  rw [← hd'] at t5 ⊢
  rw [← hs'] at t5
  have P5 : Hid (Pa w w5 d sb d' s' l l [(.slice (some ⟨g, 0, none⟩) N6 cap, A ++ [171, 172])]) := Lib.hid
    ⟨S4.out.1.below b5, t5.mono (by rw [hs']; exact S4.out.2.size), fun e => by
        have := lt_of_heap S4.out.1.sts
        omega, S4.out.2.trans (b5.mono S4.out.2.size), fun x hx => by
        simp only [List.mem_singleton] at hx
        subst hx
        exact U4.out.below b5, by simp⟩
  clear h1 b5 t5 NW IF S4 U4 hd' hs'
  go_wp2_with fail
  have KS : Hid (∀ W : World, Pa w W d sb d' s' l l [(.slice (some ⟨g, 0, none⟩) N6 cap, A ++ [171, 172])] → W.cell? ⟨g, K, none⟩ = some (.int .i64 171) ∧ W.cell? ⟨g, K + 1, none⟩ = some (.int .i64 172)) := Lib.hid (fun W h => by
    have o := h.rows _ (List.mem_singleton.2 rfl)
    refine ⟨Ints.cell o.ints K 171 ?_, Ints.cell o.ints (K + 1) 172 ?_⟩
    · show (A ++ [171, 172])[K]? = some 171
      rw [List.getElem?_append_right (by rw [KK.out]; exact Nat.le_refl _), KK.out, Nat.sub_self]; rfl
    · show (A ++ [171, 172])[K + 1]? = some 172
      rw [List.getElem?_append_right (by rw [KK.out]; omega), show K + 1 - A.length = 1 by rw [KK.out]; omega]; rfl)
  have TA : Hid (Calls Try.prog 10 #[.pointer (some ⟨d, 0, none⟩)] w5.drew fun e w' => ∃ u, e = .returned u ∧ Pa w w' d sb d' s' l l [(.slice (some ⟨g, 0, none⟩) N6 cap, A ++ [171, 172])] ∧ OwnI w.heap.size w' u A) := Lib.hid (by
    have P5d := P5.out.below (W' := w5.drew) ⟨rfl, rfl, rfl, Nat.le_refl _, fun _ _ => rfl⟩
    refine (TK.out _ _ _ P5d.sp).mono ?_
    rintro e w' ⟨u, h1, h2, h3⟩
    exact ⟨u, h1, P5d.below h3, h2.mono P5d.bl.size⟩)
  have SM : Hid (∀ (W : World) (u : Value), Pa w W d sb d' s' l l [(.slice (some ⟨g, 0, none⟩) N6 cap, A ++ [171, 172])] → OwnI w.heap.size W u A → Calls Try.prog 12 #[.slice (some ⟨g, 0, none⟩) K cap, u] W fun e w' => e = .returned (.bool true) ∧ Pa w w' d sb d' s' l l [(.slice (some ⟨g, 0, none⟩) N6 cap, A ++ [171, 172])]) := Lib.hid (fun W u h o => by
    have i1 : Ints W (.slice (some ⟨g, 0, none⟩) K cap) A := by rw [KK.out]; exact (h.rows _ (List.mem_singleton.2 rfl)).ints.front
    refine (sameInts_yes _ _ A W i1 o.ints).mono ?_
    rintro e w' ⟨h1, h2⟩
    exact ⟨h1, h.below h2⟩)
  have KD : Hid (w5.drew.cell? ⟨g, K, none⟩ = some (.int .i64 171) ∧ w5.drew.cell? ⟨g, K + 1, none⟩ = some (.int .i64 172)) := Lib.hid (KS.out _ (P5.out.below (W' := w5.drew) ⟨rfl, rfl, rfl, Nat.le_refl _, fun _ _ => rfl⟩))
  have i1 : (K : Int) < (N6 : Int) := by omega
  have i2 : (K : Int) + 1 < (N6 : Int) := by omega
  have i3 : K < N6 := by omega
  have i4 : K + 1 < N6 := by omega
  have w1' : IntKind.i64.wrap ((K : Int) + 1) = ((K + 1 : Nat) : Int) := by rw [IntKind.wrap_i64]; omega
  have i5 : ((K + 1 : Nat) : Int) < (N6 : Int) := by omega
  clear P5 hk2 eN6
  go_region_held (fun W : World => W.cell? ⟨g, K, none⟩ = some (.int .i64 171) ∧ W.cell? ⟨g, K + 1, none⟩ = some (.int .i64 172)) (first | exact KD.out | exact KS.out _ hP7 | exact KS.out _ hP6) (first | (go_at_call 10; refine TA.out.mono ?_; rintro _ w6 ⟨u6, rfl, hP6, hO6⟩) | (go_at_call 12; refine (SM.out _ _ hP6 hO6).mono ?_; rintro _ w7 ⟨rfl, hP7⟩))
  have P7 := Lib.hid hP7
  clear hP6 hP7 hO6 KS TA SM KD w1'
  go_wp2_with fail
  go_loopg [10] K (fun q si wr => ∃ (j : Nat), j ≤ K ∧ q = K - j ∧ si = .int .i64 j ∧ Pa w wr d sb d' s' l l [(.slice (some ⟨g, 0, none⟩) N6 cap, fillI 1 j (A ++ [171, 172]))])
  case atStart => exact ⟨0, by omega, rfl, rfl, by rw [fillI_zero]; exact P7.out⟩
  case round =>
    obtain ⟨j, hj, hq, rfl, hp⟩ := hrel
    have P := Lib.hid hp
    have G := Lib.hid hq
    clear hp hq P7
    have AL : Hid ((A ++ [171, 172] : List Int).length = K + 2) := Lib.hid (by rw [List.length_append, KK.out]; rfl)
    by_cases hlt : j < K
    · have q1 : (j : Int) < (K : Int) := by omega
      have q2 : (j : Int) < (N6 : Int) := by omega
      have q3 : j < N6 := by omega
      have ow := P.out.rows _ (List.mem_singleton.2 rfl)
      obtain ⟨g', cap', cur', e, _, _, hh, hsz, _⟩ := ow.at (by rw [fillI_length _ _ _ (by rw [AL.out]; omega), AL.out]; omega)
      simp only [Value.slice.injEq, Option.some.injEq, Addr.mk.injEq, and_true] at e
      obtain ⟨rfl, -, rfl⟩ := e
      have c1 : ∃ u, wr.cell? ⟨g, j, none⟩ = some u := ⟨_, by rw [cell_of_row wr g j _ _ _ hh]; exact Array.getElem?_eq_getElem (by omega)⟩
      obtain ⟨u, c1⟩ := c1
      have c2 : wr.frozen? ⟨g, j, none⟩ = false := frozen_of_row wr g j _ _ hh
      have NX : Hid (Pa w (wr.setCell ⟨g, j, none⟩ (.int .i64 1)) d sb d' s' l l [(.slice (some ⟨g, 0, none⟩) N6 cap, fillI 1 (j + 1) (A ++ [171, 172]))]) := Lib.hid (by
        have := P.out.upd (i := 0) rfl (kept_set wr ⟨g, j, none⟩ (.int .i64 1) rfl) (ow.put j 1)
        rw [fillI_next 1 j _ (by rw [AL.out]; omega)] at this
        exact this)
      clear ow hh
      go_wp2_with fail
      go_roundg (K - (j + 1))
      case measure => have := G.out; omega
      case rel => exact ⟨j + 1, by omega, rfl, by go_num, NX.out⟩
    · have q1 : ¬ (j : Int) < (K : Int) := by omega
      have P8 : Hid (Pa w wr d sb d' s' l l []) := Lib.hid (Pa.less (R := []) P.out)
      clear P hlt
      go_wp2_with fail
      refine (TK.out _ _ _ P8.out.st).mono ?_
      rintro _ w9 ⟨u9, rfl, o9, b9⟩
      have P9 : Hid (Pa w w9 d sb d' s' l l [(u9, A)]) := Lib.hid (P8.out.new b9 o9)
      obtain ⟨a9, c9, e9, _⟩ := o9.len
      subst e9
      clear o9 b9 P8
      go_wp2_with fail
      refine (TK.out _ _ _ P9.out.sp).mono ?_
      rintro _ w10 ⟨u10, rfl, o10, b10⟩
      have P10 : Hid (Pa w w10 d sb d' s' l l []) := Lib.hid (Pa.less (R := []) (P9.out.below b10))
      have SI := Lib.hid (sameInts_yes _ _ A w10 ((P9.out.below b10).rows _ (List.mem_singleton.2 rfl)).ints o10.ints)
      obtain ⟨a10, c10, e10, _⟩ := o10.len
      subst e10
      clear o10 b10 P9
      go_wp2_with fail
      refine SI.out.mono ?_
      rintro _ w11 ⟨rfl, b11⟩
      have P11 := Lib.hid (P10.out.below b11)
      clear b11 P10 SI
      go_wp2_with fail
      refine (TK.out _ _ _ P11.out.sp).mono ?_
      rintro _ w12 ⟨u12, rfl, o12, b12⟩
      have P12 : Hid (Pa w w12 d sb d' s' l l [(u12, A)]) := Lib.hid (P11.out.new b12 o12)
      obtain ⟨a12, c12, e12, hc12, hm12⟩ := o12.len
      subst e12
      rw [← KK.out] at P12 hc12 ⊢
      clear o12 b12 P11
      go_wp2_with fail
      go_loopg [98] K (fun q si wr => ∃ (j : Nat), j ≤ K ∧ q = K - j ∧ si = .int .i64 j ∧ Pa w wr d sb d' s' l (gvS l A j) [(.slice a12 K c12, A)])
      case atStart => exact ⟨0, by omega, rfl, rfl, by rw [gvS_zero]; exact P12.out⟩
      case round =>
        obtain ⟨j2, hj2, hq2, rfl, hp⟩ := hrel
        have P := Lib.hid hp
        have G2 := Lib.hid hq2
        clear hp hq2 P12
        by_cases hlt : j2 < K
        · have q2 : (j2 : Int) < (K : Int) := by omega
          have ow := P.out.rows _ (List.mem_singleton.2 rfl)
          obtain ⟨g12, cap', cur', e, _⟩ := ow.at (by rw [← KK.out]; omega)
          simp only [Value.slice.injEq] at e
          obtain ⟨rfl, -, rfl⟩ := e
          obtain ⟨y, hy⟩ : ∃ y, A[j2]? = some y := ⟨_, List.getElem?_eq_getElem (by rw [← KK.out]; exact hlt)⟩
          have c1 := Ints.cell ow.ints j2 y hy
          have GV : Hid (Calls Try.prog 13 #[.pointer (some ⟨d', 0, none⟩), .int .i64 y] wr fun e w' => e = .returned (.int .i64 0) ∧ Pa w w' d sb d' s' l (gvS l A (j2 + 1)) [(.slice (some ⟨g12, 0, none⟩) K c12, A)]) := Lib.hid (by
            have hb := ris_bounds (those_ris [1, 2] 2 l) y (by rw [← AA.out]; exact List.mem_of_getElem? hy)
            have gn := gvS_next l LM.out.2 j2 y (by rw [← AA.out]; exact hy)
            rw [← AA.out] at gn
            have := give_any P.out.st y (by rw [LM.out.1] at hb; omega)
            rw [gn] at this
            refine this.mono ?_
            rintro e w' ⟨h1, h2, h3⟩
            exact ⟨h1, P.out.step h2 h3⟩)
          clear ow hy P
          go_wp2_with fail
          refine GV.out.mono ?_
          rintro _ w13 ⟨rfl, hp⟩
          have P13 := Lib.hid hp
          clear hp GV
          go_wp2_with fail
          go_roundg (K - (j2 + 1))
          case measure => have := G2.out; omega
          case rel => exact ⟨j2 + 1, by omega, rfl, by go_num, P13.out⟩
        · have q2 : ¬ (j2 : Int) < (K : Int) := by omega
          have ej : j2 = K := by omega
          obtain ⟨l3, hl3⟩ : ∃ l3, l3 = gvS l A j2 := ⟨_, rfl⟩
          have HD : Hid (∀ (W : World), Sp w.heap.size W d' s' 2 l3 → Calls Try.prog 14 #[.pointer (some ⟨d', 0, none⟩)] W fun e w' => ∃ u, e = .returned u ∧ OwnI W.heap.size w' u A ∧ Below W.heap.size W w') := Lib.hid (fun W h => by
            have := held_any h
            rw [hl3, ej, AA.out, KK.out, AA.out, gvS_held l LM.out.2, ← AA.out] at this
            exact this)
          have P20 : Hid (Pa w wr d sb d' s' l l3 []) := Lib.hid (by rw [hl3]; exact Pa.less (R := []) P.out)
          clear P hl3 ej hlt
          go_wp2_with fail
          refine (HD.out _ P20.out.st).mono ?_
          rintro _ w21 ⟨va, rfl, o21, b21⟩
          have P21 : Hid (Pa w w21 d sb d' s' l l3 [(va, A)]) := Lib.hid (P20.out.new b21 o21)
          obtain ⟨aa, ca, ea, hca, hma⟩ := o21.len
          subst ea
          rw [← KK.out] at P21 hca ⊢
          clear o21 b21 P20
          go_wp2_with fail
          refine (HD.out _ P21.out.st).mono ?_
          rintro _ w22 ⟨vb, rfl, o22, b22⟩
          have P22 := Lib.hid (P21.out.new b22 o22)
          obtain ⟨ab, cb, eb, hcb, hmb⟩ := o22.len
          subst eb
          rw [← KK.out] at P22 hcb ⊢
          clear o22 b22 P21
          go_wp2_with fail
          refine (TK.out _ _ _ P22.out.sp).mono ?_
          rintro _ w23 ⟨vc, rfl, o23, b23⟩
          have P23 := Lib.hid (P22.out.new b23 o23)
          obtain ⟨ac, cc, ec, hcc, hmc⟩ := o23.len
          subst ec
          rw [← KK.out] at P23 hcc ⊢
          clear o23 b23 P22
          go_wp2_with fail
          refine (TK.out _ _ _ P23.out.sp).mono ?_
          rintro _ w24 ⟨vd, rfl, o24, b24⟩
          have P24 := Lib.hid (P23.out.new b24 o24)
          obtain ⟨ad, cd, ed, hcd, hmd⟩ := o24.len
          subst ed
          rw [← KK.out] at P24 hcd ⊢
          clear o24 b24 P23
          go_wp2_with fail
          go_loopg [17] K (fun q si wr => ∃ (j : Nat), j ≤ K ∧ q = K - j ∧ si = .int .i64 j ∧ Pa w wr d sb d' s' l l3 [(.slice ad K cd, A), (.slice ac K cc, fillI 0 j A), (.slice ab K cb, A), (.slice aa K ca, fillI 0 j A)])
          case atStart => exact ⟨0, by omega, rfl, rfl, by rw [fillI_zero]; exact P24.out⟩
          case round =>
            obtain ⟨j3, hj3, hq3, rfl, hp⟩ := hrel
            have P := Lib.hid hp
            have G3 := Lib.hid hq3
            clear hp hq3 P24
            by_cases hlt : j3 < K
            · have q3 : (j3 : Int) < (K : Int) := by omega
              have fl : (fillI 0 j3 A).length = K := by rw [fillI_length _ _ _ (by rw [← KK.out]; omega), KK.out]
              have owa := P.out.rows _ (List.mem_of_getElem? (i := 3) rfl)
              obtain ⟨ga, cap1, cur1, e, _, _, hh1, hsz1, _⟩ := owa.at (by show 0 < (fillI 0 j3 A).length; rw [fl]; omega)
              simp only [Value.slice.injEq] at e
              obtain ⟨rfl, -, rfl⟩ := e
              have owc := P.out.rows _ (List.mem_of_getElem? (i := 1) rfl)
              obtain ⟨gc, cap2, cur2, e, _, _, hh2, hsz2, _⟩ := owc.at (by show 0 < (fillI 0 j3 A).length; rw [fl]; omega)
              simp only [Value.slice.injEq] at e
              obtain ⟨rfl, -, rfl⟩ := e
              have c1 : ∃ u, wr.cell? ⟨ga, j3, none⟩ = some u := ⟨_, by rw [cell_of_row wr ga j3 _ _ _ hh1]; exact Array.getElem?_eq_getElem (by omega)⟩
              obtain ⟨u1, c1⟩ := c1
              have c2 : wr.frozen? ⟨ga, j3, none⟩ = false := frozen_of_row wr ga j3 _ _ hh1
              have F1 : Hid (Pa w (wr.setCell ⟨ga, j3, none⟩ (.int .i64 0)) d sb d' s' l l3 [(.slice ad K cd, A), (.slice (some ⟨gc, 0, none⟩) K cc, fillI 0 j3 A), (.slice ab K cb, A), (.slice (some ⟨ga, 0, none⟩) K ca, fillI 0 (j3 + 1) A)]) := Lib.hid (by
                have := P.out.upd (i := 3) rfl (kept_set wr ⟨ga, j3, none⟩ (.int .i64 0) rfl) (owa.put j3 0)
                rw [show (fillI 0 j3 A).set j3 0 = fillI 0 (j3 + 1) A from fillI_next 0 j3 _ (by rw [← KK.out]; exact hlt)] at this
                exact this)
              obtain ⟨X, hX⟩ : ∃ X, X = wr.setCell ⟨ga, j3, none⟩ (.int .i64 0) := ⟨_, rfl⟩
              rw [← hX] at F1
              have owc2 := F1.out.rows _ (List.mem_of_getElem? (i := 1) rfl)
              obtain ⟨gc', cap3, cur3, e, _, _, hh3, hsz3, _⟩ := owc2.at (by show 0 < (fillI 0 j3 A).length; rw [fl]; omega)
              simp only [Value.slice.injEq, Option.some.injEq, Addr.mk.injEq, and_true] at e
              obtain ⟨rfl, -, rfl⟩ := e
              have c3 : ∃ u, X.cell? ⟨gc, j3, none⟩ = some u := ⟨_, by rw [cell_of_row X gc j3 _ _ _ hh3]; exact Array.getElem?_eq_getElem (by omega)⟩
              obtain ⟨u3', c3⟩ := c3
              have c4 : X.frozen? ⟨gc, j3, none⟩ = false := frozen_of_row X gc j3 _ _ hh3
              have F2 : Hid (Pa w (X.setCell ⟨gc, j3, none⟩ (.int .i64 0)) d sb d' s' l l3 [(.slice ad K cd, A), (.slice (some ⟨gc, 0, none⟩) K cc, fillI 0 (j3 + 1) A), (.slice ab K cb, A), (.slice (some ⟨ga, 0, none⟩) K ca, fillI 0 (j3 + 1) A)]) := Lib.hid (by
                have := F1.out.upd (i := 1) rfl (kept_set X ⟨gc, j3, none⟩ (.int .i64 0) rfl) (owc2.put j3 0)
                rw [show (fillI 0 j3 A).set j3 0 = fillI 0 (j3 + 1) A from fillI_next 0 j3 _ (by rw [← KK.out]; exact hlt)] at this
                exact this)
              have hX' := hX.symm
              clear owa owc owc2 hh1 hh2 hh3 P F1 hX fl
              go_wp2_with fail
              go_roundg (K - (j3 + 1))
              case measure => have := G3.out; omega
              case rel => exact ⟨j3 + 1, by omega, rfl, by go_num, F2.out⟩
            · have q3 : ¬ (j3 : Int) < (K : Int) := by omega
              obtain ⟨Z, hZ⟩ : ∃ Z, Z = fillI 0 j3 A := ⟨_, rfl⟩
              have ZZ : Hid (Z.length = K ∧ Z = List.replicate K 0) := Lib.hid (by
                have ej : j3 = A.length := by rw [← KK.out]; omega
                rw [hZ, ej, fillI_all, ← KK.out, List.length_replicate]
                exact ⟨rfl, rfl⟩)
              have P30 : Hid (Pa w wr d sb d' s' l l3 [(.slice ad K cd, A), (.slice ac K cc, Z), (.slice ab K cb, A), (.slice aa K ca, Z)]) := Lib.hid (by rw [hZ]; exact P.out)
              clear P hZ hlt
              go_wp2_with (refine app_keep rfl (.tmp 127) (.tmp 128) rfl (y := 9) rfl rfl (P30.out.rows _ (List.mem_of_getElem? (i := 3) rfl)) P30.out.bl.size rfl rfl (by show Z.length ≤ _; rw [ZZ.out.1]; omega) ?_)
              intro ag cg w31 hA31
              rw [ZZ.out.1] at hA31 ⊢
              obtain ⟨N7, hN7⟩ : ∃ N7, N7 = K + 1 := ⟨_, rfl⟩
              rw [← hN7] at hA31 ⊢
              have e7 : (N7 : Int) - 1 = (K : Int) := by omega
              have l7 : (K : Int) < (N7 : Int) := by omega
              have HN7 := Lib.hid hN7
              have P31 : Hid (Pa w w31 d sb d' s' l l3 [(.slice ad K cd, A), (.slice ac K cc, Z), (.slice ab K cb, A), (.slice aa K ca, Z)]) := Lib.hid (P30.out.upd (i := 3) rfl hA31.out.2.2.1 hA31.out.1)
              have G31 : Hid ((∃ B', OwnI B' w31 (.slice ag N7 cg) (Z ++ [9])) ∧ Off (.slice ag N7 cg) (.slice ac K cc)) := Lib.hid ⟨hA31.out.2.1, fun k h1 h2 => by
                rcases hA31.out.2.2.2 k h1.symm with q | q
                · exact off_at P30.out.ap (i := 1) (j := 3) rfl rfl (by decide) k h2.symm q
                · have := ((P30.out.rows _ (List.mem_of_getElem? (i := 1) rfl)).lt k h2.symm).2
                  omega⟩
              clear hA31 P30 hN7
              go_wp2_with (refine app_keep rfl (.tmp 130) (.tmp 131) rfl (y := 9) rfl rfl (P31.out.rows _ (List.mem_of_getElem? (i := 1) rfl)) P31.out.bl.size rfl rfl (by show Z.length ≤ _; rw [ZZ.out.1]; omega) ?_)
              intro ah ch w32 hA32
              rw [ZZ.out.1, ← HN7.out] at hA32
              rw [ZZ.out.1, ← HN7.out]
              have P32 : Hid (Pa w w32 d sb d' s' l l3 [(.slice ad K cd, A), (.slice ac K cc, Z), (.slice ab K cb, A), (.slice aa K ca, Z)]) := Lib.hid (P31.out.upd (i := 1) rfl hA32.out.2.2.1 hA32.out.1)
              have G32 : Hid ((∃ B', OwnI B' w32 (.slice ag N7 cg) (Z ++ [9])) ∧ (∃ B', OwnI B' w32 (.slice ah N7 ch) (Z ++ [9]))) := Lib.hid (by
                obtain ⟨B', og⟩ := G31.out.1
                exact ⟨⟨B', og.kept hA32.out.2.2.1 G31.out.2⟩, hA32.out.2.1⟩)
              clear hA32 P31 G31
              go_wp2_with fail
              refine (HD.out _ P32.out.st).mono ?_
              rintro _ w33 ⟨vx, rfl, o33, b33⟩
              have P33 := Lib.hid (P32.out.new b33 o33)
              have G33 : Hid ((∃ B', OwnI B' w33 (.slice ag N7 cg) (Z ++ [9])) ∧ (∃ B', OwnI B' w33 (.slice ah N7 ch) (Z ++ [9]))) := Lib.hid (by
                obtain ⟨⟨B1, og⟩, ⟨B2, oh⟩⟩ := G32.out
                exact ⟨⟨B1, og.below b33⟩, ⟨B2, oh.below b33⟩⟩)
              obtain ⟨ax, cx, ex, _⟩ := o33.len
              subst ex
              clear o33 b33 P32 G32
              go_wp2_with fail
              refine (TK.out _ _ _ P33.out.sp).mono ?_
              rintro _ w34 ⟨vy, rfl, o34, b34⟩
              have P34 := Lib.hid (P33.out.new b34 o34)
              have G34 : Hid ((∃ B', OwnI B' w34 (.slice ag N7 cg) (Z ++ [9])) ∧ (∃ B', OwnI B' w34 (.slice ah N7 ch) (Z ++ [9]))) := Lib.hid (by
                obtain ⟨⟨B1, og⟩, ⟨B2, oh⟩⟩ := G33.out
                exact ⟨⟨B1, og.below b34⟩, ⟨B2, oh.below b34⟩⟩)
              obtain ⟨ay, cy, ey, _⟩ := o34.len
              subst ey
              clear o34 b34 P33 G33
              go_wp2_with fail
              go_loopg [22] K (fun q si wr => ∃ (j : Nat), j ≤ K ∧ q = K - j ∧ si = .int .i64 j ∧ wr = w34)
              case atStart => exact ⟨0, by omega, rfl, rfl, rfl⟩
              case round =>
                obtain ⟨j4, hj4, hq4, rfl, rfl⟩ := hrel
                have G4 := Lib.hid hq4
                clear hq4
                by_cases hlt : j4 < K
                · have q4 : (j4 : Int) < (K : Int) := by omega
                  have zj : Z[j4]? = some 0 := by rw [ZZ.out.2, List.getElem?_replicate, if_pos hlt]
                  have owa := P34.out.rows _ (List.mem_of_getElem? (i := 5) rfl)
                  obtain ⟨ga, cap1, cur1, e, _⟩ := owa.at (by show 0 < Z.length; rw [ZZ.out.1]; omega)
                  simp only [Value.slice.injEq] at e
                  obtain ⟨rfl, -, rfl⟩ := e
                  have owc := P34.out.rows _ (List.mem_of_getElem? (i := 3) rfl)
                  obtain ⟨gc, cap2, cur2, e, _⟩ := owc.at (by show 0 < Z.length; rw [ZZ.out.1]; omega)
                  simp only [Value.slice.injEq] at e
                  obtain ⟨rfl, -, rfl⟩ := e
                  have c1 := Ints.cell owa.ints j4 0 zj
                  have c2 := Ints.cell owc.ints j4 0 zj
                  clear owa owc zj
                  go_wp2_with fail
                  go_roundg (K - (j4 + 1))
                  case measure => have := G4.out; omega
                  case rel => exact ⟨j4 + 1, by omega, rfl, by go_num, rfl⟩
                · have q4 : ¬ (j4 : Int) < (K : Int) := by omega
                  clear hlt
                  have SI1 := Lib.hid (sameInts_yes _ _ A wr (P34.out.rows _ (List.mem_of_getElem? (i := 4) rfl)).ints (P34.out.rows _ (List.mem_of_getElem? (i := 2) rfl)).ints)
                  go_wp2_with fail
                  refine SI1.out.mono ?_
                  rintro _ w35 ⟨rfl, b35⟩
                  have P35 := Lib.hid (P34.out.below b35)
                  have G35 : Hid ((∃ B', OwnI B' w35 (.slice ag N7 cg) (Z ++ [9])) ∧ (∃ B', OwnI B' w35 (.slice ah N7 ch) (Z ++ [9]))) := Lib.hid (by
                    obtain ⟨⟨B1, og⟩, ⟨B2, oh⟩⟩ := G34.out
                    exact ⟨⟨B1, og.below b35⟩, ⟨B2, oh.below b35⟩⟩)
                  have SI2 := Lib.hid (sameInts_yes _ _ A w35 (P35.out.rows _ (List.mem_of_getElem? (i := 1) rfl)).ints (P35.out.rows _ (List.mem_of_getElem? (i := 4) rfl)).ints)
                  clear b35 P34 G34 SI1
                  go_wp2_with fail
                  refine SI2.out.mono ?_
                  rintro _ w36 ⟨rfl, b36⟩
                  have P36 := Lib.hid (P35.out.below b36)
                  have G36 : Hid ((∃ B', OwnI B' w36 (.slice ag N7 cg) (Z ++ [9])) ∧ (∃ B', OwnI B' w36 (.slice ah N7 ch) (Z ++ [9]))) := Lib.hid (by
                    obtain ⟨⟨B1, og⟩, ⟨B2, oh⟩⟩ := G35.out
                    exact ⟨⟨B1, og.below b36⟩, ⟨B2, oh.below b36⟩⟩)
                  have SI3 := Lib.hid (sameInts_yes _ _ A w36 (P36.out.rows _ (List.mem_of_getElem? (i := 0) rfl)).ints (P36.out.rows _ (List.mem_of_getElem? (i := 2) rfl)).ints)
                  clear b36 P35 G35 SI2
                  go_wp2_with fail
                  refine SI3.out.mono ?_
                  rintro _ w37 ⟨rfl, b37⟩
                  have B37 := Lib.hid (P36.out.below b37).bl
                  obtain ⟨⟨B1, og⟩, ⟨B2, oh⟩⟩ := G36.out
                  have og' := og.below b37
                  have oh' := oh.below b37
                  have zl : (Z ++ [9])[K]? = some 9 := by rw [List.getElem?_append_right (by rw [ZZ.out.1]; exact Nat.le_refl _), ZZ.out.1, Nat.sub_self]; rfl
                  obtain ⟨gg, cap1, cur1, e, _⟩ := og'.at (by simp)
                  simp only [Value.slice.injEq] at e
                  obtain ⟨rfl, -, rfl⟩ := e
                  obtain ⟨gh, cap2, cur2, e, _⟩ := oh'.at (by simp)
                  simp only [Value.slice.injEq] at e
                  obtain ⟨rfl, -, rfl⟩ := e
                  have c1 := Ints.cell og'.ints K 9 zl
                  have c2 := Ints.cell oh'.ints K 9 zl
                  clear b37 P36 G36 SI3 og oh og' oh' zl
                  go_wp2_with fail
                  go_ret
                  exact ⟨rfl, B37.out⟩
end Go.Proofs.Ytfdhccanacpanaa
