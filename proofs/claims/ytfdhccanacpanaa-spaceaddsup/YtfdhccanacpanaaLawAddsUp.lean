/-
  SpaceAddsUp.
-/
import Derived.Test.YtfdhccanacpanaaSpH
namespace Go.Proofs.Ytfdhccanacpanaa
open Go.RowKit
theorem mem_at (ss : List UInt8) (f : Nat) (l : List UInt8) (j : Nat) (x : UInt8) (hx : l[j]? = some x) : ((f + j : Nat) : Int) ∈ those ss f l ↔ ss.contains x = true := by
  rw [mem_those]
  have hj := (List.getElem?_eq_some_iff.1 hx).1
  constructor
  · rintro ⟨i, _, h2, h3⟩
    have e : i = j := by omega
    subst e
    simpa [List.getD, hx] using h3
  · intro h
    exact ⟨j, hj, rfl, by simpa [List.getD, hx] using h⟩
theorem held_not (f : Nat) (l : List UInt8) (b : Int) (hb : b ∈ those [3] f l) : b ∉ those [1, 2] f l := by
  obtain ⟨i, hi, rfl, h3⟩ := (mem_those _ _ _ _).1 hb
  have hx := List.getElem?_eq_getElem hi
  rw [mem_at _ _ _ _ _ hx]
  simp only [List.getD, hx, Option.getD_some] at h3
  have e : l[i] = 3 := by simpa using h3
  rw [e]
  decide
/-- What the law holds in a round: the space and the two rows. -/
def Au (w W : World) (d sb M : Nat) (l : List UInt8) (t h : Value) : Prop :=
  Sp w.heap.size W d sb 2 l ∧ Below w.heap.size w W ∧ l.length = M ∧ OwnI w.heap.size W t (those [1, 2] 2 l) ∧ OwnI w.heap.size W h (those [3] 2 l)
theorem Au.below {w W W' : World} {d sb M : Nat} {l : List UInt8} {t h : Value} (H : Au w W d sb M l t h) (b : Below W.heap.size W W') : Au w W' d sb M l t h :=
  ⟨H.1.below b, H.2.1.trans (b.mono H.2.1.size), H.2.2.1, H.2.2.2.1.below b, H.2.2.2.2.below b⟩
set_option maxRecDepth 100000 in
set_option maxHeartbeats 4000000 in
theorem spaceAddsUp_walk (n : Int) (v : Value) (ms : List Bool) (v1 : Value) (t1 : List OpS) (w : World) (_hn : -9223372036854775808 ≤ n ∧ n < 9223372036854775808)
    (hv : Bools w v ms) (_hl : ms.length ≤ 140737488355328) (h1 : OpsS w v1 t1) (_hl1 : t1.length ≤ 140737488355328) :
    Calls Try.prog 5 #[.int .i64 n, v, v1] w fun e w' => e = .returned (.bool true) ∧ Below w.heap.size w w' := by
  have O := Lib.hid (open_any n _ (and_63 n) (mod64 n) v ms w hv)
  have H1 := Lib.hid h1
  obtain ⟨av1, cap1, rfl, hc1, hm1⟩ := h1.len
  obtain ⟨am, cm, hvm, _⟩ := hv
  subst hvm
  obtain ⟨N1, hN1⟩ : ∃ N1, N1 = t1.length := ⟨_, rfl⟩
  rw [← hN1] at hc1 H1 ⊢
  have NN1 := Lib.hid hN1
  clear h1 hN1 _hl _hl1 _hn
  go_enter Try.func5, Try.ntmps5
  go_wp2_with fail
  refine O.out.mono ?_
  rintro _ w1 ⟨d, sb, rfl, s1, b1⟩
  obtain ⟨M, hM⟩ : ∃ M, M = (n % 64).toNat + 1 := ⟨_, rfl⟩
  rw [← hM] at s1 ⊢
  have hM64 : M ≤ 64 := by rw [hM]; omega
  have S1 := Lib.hid (And.intro s1 b1)
  clear s1 b1 O hM
  go_wp2_with fail
  refine (fixed_any w1).mono ?_
  rintro _ w2 ⟨d2, rfl, b2⟩
  have S2 : Hid (Sp w.heap.size w2 d sb 2 (opS M ms) ∧ Below w.heap.size w w2) := Lib.hid ⟨S1.out.1.below b2, S1.out.2.trans (b2.mono S1.out.2.size)⟩
  clear b2 S1
  go_wp2_with fail
  go_loopg [8] N1 (fun g si wr => ∃ (k : Nat) (l : List UInt8), k ≤ N1 ∧ g = N1 - k ∧ si = .int .i64 k ∧ l.length = M ∧ Sp w.heap.size wr d sb 2 l ∧ Below w.heap.size w wr)
  case atStart => exact ⟨0, _, Nat.zero_le _, rfl, rfl, opS_length M ms, S2.out⟩
  case round =>
    obtain ⟨k, l, hk, hg, rfl, hlM, hs, hb⟩ := hrel
    have S := Lib.hid (And.intro hlM (And.intro hs hb))
    have G := Lib.hid hg
    clear hg hlM hs hb S2
    by_cases hlt : k < N1 ∧ k < 400
    · have hlt1 : (k : Int) < (N1 : Int) := by omega
      have hlt2 : (k : Int) < 400 := by omega
      have g1 : decide ((k : Int) < (N1 : Int)) = true := decide_eq_true hlt1
      have g2 : decide ((k : Int) < 400) = true := decide_eq_true hlt2
      obtain ⟨x, hx⟩ : ∃ x, t1[k]? = some x := ⟨_, List.getElem?_eq_getElem (by rw [← NN1.out]; exact hlt.1)⟩
      have HB := Lib.hid (H1.out.1 x (List.mem_of_getElem? hx))
      obtain ⟨b, off, cp, e1, _, _, r1⟩ := (H1.out.below S.out.2.2).at k x hx
      simp only [Value.slice.injEq] at e1
      obtain ⟨rfl, -, rfl⟩ := e1
      have RA : Hid (∀ W, Below w.heap.size w W → W.rangeAt b (off + k * 3) x.cells) := Lib.hid (fun W hW => by
        obtain ⟨b', off', cp', e1, _, _, r1⟩ := (H1.out.below hW).at k x hx
        simp only [Value.slice.injEq, Option.some.injEq, Addr.mk.injEq, and_true] at e1
        obtain ⟨⟨rfl, rfl⟩, -, rfl⟩ := e1
        exact r1)
      clear r1 hx
      go_wp2_with fail
      refine (taken_any S.out.2.1).mono ?_
      rintro _ w3 ⟨ut, rfl, o3, b3⟩
      have S3 : Hid (l.length = M ∧ Sp w.heap.size w3 d sb 2 l ∧ Below w.heap.size w w3 ∧ OwnI w.heap.size w3 ut (those [1, 2] 2 l)) := Lib.hid ⟨S.out.1, S.out.2.1.below b3, S.out.2.2.trans (b3.mono S.out.2.2.size), o3.mono S.out.2.2.size⟩
      obtain ⟨at3, ct3, eut, _, hct3⟩ := o3.len
      subst eut
      obtain ⟨T, hT⟩ : ∃ T, T = (those [1, 2] 2 l).length := ⟨_, rfl⟩
      rw [← hT] at S3 ⊢
      have TT := Lib.hid hT
      clear o3 b3 S hT
      go_wp2_with fail
      refine (held_any S3.out.2.1).mono ?_
      rintro _ w4 ⟨uh, rfl, o4, b4⟩
      have A4 : Hid (Au w w4 d sb M l (.slice at3 T ct3) uh) := Lib.hid ⟨S3.out.2.1.below b4, S3.out.2.2.1.trans (b4.mono S3.out.2.2.1.size), S3.out.1, S3.out.2.2.2.below b4, o4.mono S3.out.2.2.1.size⟩
      obtain ⟨ah4, ch4, euh, _, hch4⟩ := o4.len
      subst euh
      obtain ⟨Hn, hHn⟩ : ∃ Hn, Hn = (those [3] 2 l).length := ⟨_, rfl⟩
      rw [← hHn] at A4 ⊢
      have HH := Lib.hid hHn
      have hAdd := adds_up 2 l A4.out.1.ok
      rw [← TT.out, ← hHn, A4.out.2.2.1] at hAdd
      obtain ⟨F, hF⟩ : ∃ F, F = freeN l := ⟨_, rfl⟩
      rw [← hF] at hAdd
      have FR : Hid (Calls Try.prog 18 #[.pointer (some ⟨d, 0, none⟩)] w4 fun e w' => e = .returned (.int .i64 F) ∧ w' = w4) := Lib.hid (by rw [hF]; exact free_any A4.out.1)
      have hFT : (F : Int) + (T : Int) + (Hn : Int) = (M : Int) := by omega
      clear o4 b4 S3 hHn hF
      have RT := Lib.hid (rising_yes _ _ M w4 A4.out.2.2.2.1.ints (by omega) (by have := those_ris [1, 2] 2 l; rw [A4.out.2.2.1] at this; exact this))
      go_wp2_with fail
      refine FR.out.mono ?_
      rintro _ _ ⟨rfl, rfl⟩
      clear FR
      go_wp2_with fail
      refine RT.out.mono ?_
      rintro _ w5 ⟨rfl, b5⟩
      have A5 := Lib.hid (A4.out.below b5)
      have RH := Lib.hid (rising_yes _ _ M w5 A5.out.2.2.2.2.ints (by omega) (by have := those_ris [3] 2 l; rw [A5.out.2.2.1] at this; exact this))
      clear b5 A4 RT
      go_wp2_with fail
      refine RH.out.mono ?_
      rintro _ w6 ⟨rfl, b6⟩
      have A6 := Lib.hid (A5.out.below b6)
      clear b6 A5 RH hFT hAdd
      go_wp2_with fail
      obtain ⟨ahi, chi, ehi, hhc, hhm, hhr⟩ := ints_none _ _ _ A6.out.2.2.2.2.ints
      simp only [Value.slice.injEq] at ehi
      obtain ⟨rfl, -, rfl⟩ := ehi
      rw [← HH.out] at hhc
      have HR : Hid (∀ j, j < Hn → ∃ b off, ah4 = some ⟨b, off, none⟩ ∧ w6.cell? ⟨b, off + j, none⟩ = some (.int .i64 ((those [3] 2 l).getD j 0))) := Lib.hid (by rw [HH.out]; exact hhr)
      clear hhr
      go_loopg [11] Hn (fun g si wr => ∃ (j : Nat), j ≤ Hn ∧ g = Hn - j ∧ si = .int .i64 j ∧ wr = w6)
      case atStart => exact ⟨0, Nat.zero_le _, rfl, rfl, rfl⟩
      case round =>
        obtain ⟨j, hj, hg2, rfl, rfl⟩ := hrel
        have G2 := Lib.hid hg2
        clear hg2
        by_cases hjl : j < Hn
        · have hjl' : (j : Int) < (Hn : Int) := by omega
          obtain ⟨b', off', rfl, c0⟩ := HR.out j hjl
          obtain ⟨y, hy⟩ : ∃ y, y = (those [3] 2 l).getD j 0 := ⟨_, rfl⟩
          rw [← hy] at c0
          have IN : Hid (Calls Try.prog 21 #[.slice at3 T ct3, .int .i64 y] wr fun e w' => e = .returned (.bool false) ∧ w' = wr) := Lib.hid (by
            have := in_any _ _ y wr A6.out.2.2.2.1.ints
            have hmem : y ∈ those [3] 2 l := by
              have hj3 : j < (those [3] 2 l).length := by rw [← HH.out]; exact hjl
              rw [hy, List.getD_eq_getElem?_getD, List.getElem?_eq_getElem hj3, Option.getD_some]
              exact List.getElem_mem _
            rw [decide_eq_false (held_not 2 l y hmem)] at this
            exact this)
          clear hy
          go_wp2_with fail
          refine IN.out.mono ?_
          rintro _ _ ⟨rfl, rfl⟩
          go_wp2_with fail
          go_roundg (Hn - (j + 1))
          case measure => have := G2.out; omega
          case rel => exact ⟨j + 1, by omega, rfl, by go_num, rfl⟩
        · have hjl' : ¬ (j : Int) < (Hn : Int) := by omega
          have c1 : wr.cell? ⟨b, off + k * 3 + 1, none⟩ = some (.int .i64 x.kind) := RA.out wr A6.out.2.1 1 _ rfl
          have c2 : wr.cell? ⟨b, off + k * 3 + 2, none⟩ = some (.int .i64 x.block) := RA.out wr A6.out.2.1 2 _ rfl
          by_cases k1 : x.kind = 1
          · have g5 : (x.kind == 1) = true := by rw [k1]; rfl
            clear k1
            go_wp2_with fail
            clear hjl hjl' HR G2
            go_loopg [12] M (fun g sw wr' => ∃ (q : Nat), 2 ≤ q ∧ q ≤ 2 + M ∧ g = 2 + M - q ∧ sw = .int .i64 q ∧ wr' = wr ∧ ∀ i, i + 2 < q → ∃ x, l[i]? = some x ∧ x ≠ 0)
            case atStart => exact ⟨2, Nat.le_refl _, by omega, by omega, rfl, rfl, fun i hi => by omega⟩
            case round =>
              obtain ⟨q, hq2, hqM, hg3, rfl, rfl, hp⟩ := hrel
              have P := Lib.hid hp
              have G3 := Lib.hid hg3
              clear hp hg3
              by_cases hqlt : q < 2 + M
              · have f1 : decide ((q : Int) < 2 + (M : Int)) = true := decide_eq_true (by omega)
                obtain ⟨z, hz⟩ : ∃ z, l[q - 2]? = some z := ⟨_, List.getElem?_eq_getElem (by rw [A6.out.2.2.1]; omega)⟩
                have eq2 : (q : Int) = ((2 + (q - 2) : Nat) : Int) := by omega
                have M1 : Hid ((q : Int) ∈ those [1, 2] 2 l ↔ ([1, 2] : List UInt8).contains z = true) := Lib.hid (by rw [eq2]; exact mem_at [1, 2] 2 l (q - 2) z hz)
                have M3 : Hid ((q : Int) ∈ those [3] 2 l ↔ ([3] : List UInt8).contains z = true) := Lib.hid (by rw [eq2]; exact mem_at [3] 2 l (q - 2) z hz)
                have Z := Lib.hid hz
                have IT := Lib.hid (in_any _ _ (q : Int) wr A6.out.2.2.2.1.ints)
                have IH := Lib.hid (in_any _ _ (q : Int) wr A6.out.2.2.2.2.ints)
                rw [show decide ((q : Int) ∈ those [1, 2] 2 l) = ([1, 2] : List UInt8).contains z by rw [Bool.eq_iff_iff, decide_eq_true_iff]; exact M1.out] at IT
                rw [show decide ((q : Int) ∈ those [3] 2 l) = ([3] : List UInt8).contains z by rw [Bool.eq_iff_iff, decide_eq_true_iff]; exact M3.out] at IH
                clear eq2 hz M1 M3
                have CS : Hid (z = 0 ∨ (z ≠ 0 ∧ ([1, 2] : List UInt8).contains z = true) ∨ (z ≠ 0 ∧ ([1, 2] : List UInt8).contains z = false ∧ ([3] : List UInt8).contains z = true)) := Lib.hid (by
                  rcases A6.out.1.ok z (List.mem_of_getElem? Z.out) with rfl | rfl | rfl | rfl
                  · exact Or.inl rfl
                  · exact Or.inr (Or.inl ⟨by decide, rfl⟩)
                  · exact Or.inr (Or.inl ⟨by decide, rfl⟩)
                  · exact Or.inr (Or.inr ⟨by decide, rfl, rfl⟩))
                rcases CS.out with e | ⟨e, e1⟩ | ⟨e, e1, e2⟩
                · subst e
                  rw [show ([1, 2] : List UInt8).contains 0 = false from rfl] at IT
                  rw [show ([3] : List UInt8).contains 0 = false from rfl] at IH
                  have LW : lowF l = q - 2 := lowF_eq l (q - 2) Z.out (fun i hi => P.out i (by omega))
                  have T0 : takeR 2 l = ((q : Int), 0, l.set (q - 2) 1) := by
                    unfold takeR
                    rw [LW, if_pos (by rw [A6.out.2.2.1]; omega)]
                    congr 1
                    omega
                  have TK := Lib.hid (take_any A6.out.1)
                  rw [T0] at TK
                  have MT : Hid ((q : Int) ∈ those [1, 2] 2 (l.set (q - 2) 1)) := Lib.hid (by
                    have eq2 : (q : Int) = ((2 + (q - 2) : Nat) : Int) := by omega
                    rw [eq2]
                    exact (mem_at [1, 2] 2 (l.set (q - 2) 1) (q - 2) 1 (List.getElem?_set_self (by rw [A6.out.2.2.1]; omega))).2 rfl)
                  have LL : Hid ((l.set (q - 2) 1).length = M) := Lib.hid (by rw [List.length_set]; exact A6.out.2.2.1)
                  obtain ⟨l', hl'⟩ : ∃ l', l' = l.set (q - 2) 1 := ⟨_, rfl⟩
                  rw [← hl'] at TK MT LL
                  clear T0 LW hl'
                  go_wp2_with fail
                  refine IT.out.mono ?_
                  rintro _ _ ⟨rfl, rfl⟩
                  go_wp2_with fail
                  refine IH.out.mono ?_
                  rintro _ _ ⟨rfl, rfl⟩
                  go_wp2_with fail
                  refine TK.out.mono ?_
                  rintro _ w7 ⟨rfl, s7, k7⟩
                  have S7 : Hid (Sp w.heap.size w7 d sb 2 l' ∧ Below w.heap.size w w7) := Lib.hid ⟨s7, A6.out.1.trans A6.out.2.1 k7⟩
                  clear s7 k7 TK
                  have f2 : ((q : Int) == 2 + (M : Int)) = false := by rw [beq_eq_false_iff_ne]; omega
                  go_wp2_with fail
                  refine (taken_any S7.out.1).mono ?_
                  rintro _ w8 ⟨u8, rfl, o8, b8⟩
                  have S8 : Hid (Sp w.heap.size w8 d sb 2 l' ∧ Below w.heap.size w w8) := Lib.hid ⟨S7.out.1.below b8, S7.out.2.trans (b8.mono S7.out.2.size)⟩
                  have I8 := Lib.hid (in_any _ _ (q : Int) w8 o8.ints)
                  rw [decide_eq_true MT.out] at I8
                  obtain ⟨a8, c8', e8, _⟩ := o8.len
                  subst e8
                  clear o8 b8 S7
                  go_wp2_with fail
                  refine I8.out.mono ?_
                  rintro _ _ ⟨rfl, rfl⟩
                  go_wp2_with fail
                  go_roundg (N1 - (k + 1))
                  case measure => have := G.out; omega
                  case rel => exact ⟨k + 1, _, by omega, rfl, by go_num, LL.out, S8.out⟩
                · rw [e1] at IT
                  go_wp2_with fail
                  refine IT.out.mono ?_
                  rintro _ _ ⟨rfl, rfl⟩
                  go_wp2_with fail
                  go_roundg (2 + M - (q + 1))
                  case measure => have := G3.out; omega
                  case rel =>
                    refine ⟨q + 1, by omega, by omega, rfl, by go_num, rfl, fun i hi => ?_⟩
                    rcases Nat.lt_or_ge (i + 2) q with r | r
                    · exact P.out i r
                    · obtain rfl : i = q - 2 := by omega
                      exact ⟨z, Z.out, e⟩
                · rw [e1] at IT
                  rw [e2] at IH
                  go_wp2_with fail
                  refine IT.out.mono ?_
                  rintro _ _ ⟨rfl, rfl⟩
                  go_wp2_with fail
                  refine IH.out.mono ?_
                  rintro _ _ ⟨rfl, rfl⟩
                  go_wp2_with fail
                  go_roundg (2 + M - (q + 1))
                  case measure => have := G3.out; omega
                  case rel =>
                    refine ⟨q + 1, by omega, by omega, rfl, by go_num, rfl, fun i hi => ?_⟩
                    rcases Nat.lt_or_ge (i + 2) q with r | r
                    · exact P.out i r
                    · obtain rfl : i = q - 2 := by omega
                      exact ⟨z, Z.out, e⟩
              · have f1 : decide ((q : Int) < 2 + (M : Int)) = false := decide_eq_false (by omega)
                have f2 : ((q : Int) == 2 + (M : Int)) = true := by rw [beq_iff_eq]; omega
                have T0 : takeR 2 l = (-1, 3, l) := by
                  unfold takeR
                  rw [if_neg]
                  rw [lowF_all l (fun i hi => P.out i (by rw [A6.out.2.2.1] at hi; omega))]
                  omega
                have TK := Lib.hid (take_any A6.out.1)
                rw [T0] at TK
                clear T0
                go_wp2_with fail
                refine TK.out.mono ?_
                rintro _ w7 ⟨rfl, s7, k7⟩
                have S7 : Hid (Sp w.heap.size w7 d sb 2 l ∧ Below w.heap.size w w7) := Lib.hid ⟨s7, A6.out.1.trans A6.out.2.1 k7⟩
                clear s7 k7 TK
                go_wp2_with fail
                go_roundg (N1 - (k + 1))
                case measure => have := G.out; omega
                case rel => exact ⟨k + 1, l, by omega, rfl, by go_num, A6.out.2.2.1, S7.out⟩
          · have g5 : (x.kind == 1) = false := by rw [beq_eq_false_iff_ne]; exact k1
            have R1 := Lib.hid (RA.out wr A6.out.2.1)
            clear k1
            go_wp2_with (refine wpList_load_mid rfl 38 (.tmp 84) rfl b (off + k * 3) rfl x.cells _ R1.out Try.underlying38 rfl size_op ?_)
            refine (play_any A6.out.1 x HB.out).mono ?_
            rintro _ w7 ⟨rfl, s7, k7⟩
            have S7 : Hid ((stepR 2 x.kind x.block l).length = M ∧ Sp w.heap.size w7 d sb 2 (stepR 2 x.kind x.block l) ∧ Below w.heap.size w w7) := Lib.hid ⟨by rw [stepR_length]; exact A6.out.2.2.1, s7, A6.out.1.trans A6.out.2.1 k7⟩
            clear s7 k7
            go_wp2_with fail
            go_roundg (N1 - (k + 1))
            case measure => have := G.out; omega
            case rel => exact ⟨k + 1, _, by omega, rfl, by go_num, S7.out⟩
    · have GD : Hid ((decide ((k : Int) < (N1 : Int)) = false ∧ decide (k < N1) = false) ∨ (decide ((k : Int) < (N1 : Int)) = true ∧ decide (k < N1) = true ∧ decide ((k : Int) < 400) = false ∧ decide (k < 400) = false)) := Lib.hid (by
        by_cases q : k < N1
        · exact Or.inr ⟨decide_eq_true (by omega), decide_eq_true (by omega), decide_eq_false (by omega), decide_eq_false (by omega)⟩
        · exact Or.inl ⟨decide_eq_false (by omega), decide_eq_false (by omega)⟩)
      clear hlt
      rcases GD.out with ⟨g1, g2⟩ | ⟨g1, g2, g3, g4⟩
      · go_wp2_with fail
        go_ret
        exact ⟨rfl, S.out.2.2⟩
      · go_wp2_with fail
        go_ret
        exact ⟨rfl, S.out.2.2⟩
end Go.Proofs.Ytfdhccanacpanaa
