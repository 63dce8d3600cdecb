/-
  SpaceKeepsOld.
-/
import Derived.Test.YtfdhccanacpanaaSpH
namespace Go.Proofs.Ytfdhccanacpanaa
open Go.RowKit
set_option maxRecDepth 100000 in
set_option maxHeartbeats 4000000 in
theorem spaceKeepsOld_walk (n : Int) (v : Value) (ms : List Bool) (v1 : Value) (t1 : List OpS) (v2 : Value) (t2 : List OpS) (w : World) (_hn : -9223372036854775808 ≤ n ∧ n < 9223372036854775808)
    (hv : Bools w v ms) (_hl : ms.length ≤ 140737488355328) (h1 : OpsS w v1 t1) (_hl1 : t1.length ≤ 140737488355328) (h2 : OpsS w v2 t2) (_hl2 : t2.length ≤ 140737488355328) :
    Calls Try.prog 6 #[.int .i64 n, v, v1, v2] w fun e w' => e = .returned (.bool true) ∧ Below w.heap.size w w' := by
  have O := Lib.hid (open_any n _ (and_63 n) (mod64 n) v ms w hv)
  have H1 := Lib.hid h1
  have H2 := Lib.hid h2
  obtain ⟨av1, cap1, rfl, hc1, hm1⟩ := h1.len
  obtain ⟨av2, cap2, rfl, hc2, hm2⟩ := h2.len
  obtain ⟨am, cm, hvm, _⟩ := hv
  subst hvm
  obtain ⟨N1, hN1⟩ : ∃ N1, N1 = t1.length := ⟨_, rfl⟩
  obtain ⟨N2, hN2⟩ : ∃ N2, N2 = t2.length := ⟨_, rfl⟩
  rw [← hN1] at hc1 H1 ⊢
  rw [← hN2] at hc2 H2 ⊢
  have NN1 := Lib.hid hN1
  have NN2 := Lib.hid hN2
  clear h1 h2 hN1 hN2 _hl _hl1 _hl2 _hn
  go_enter Try.func6, Try.ntmps6
  go_wp2_with fail
  refine O.out.mono ?_
  rintro _ w1 ⟨d, sb, rfl, s1, b1⟩
  obtain ⟨M, hM⟩ : ∃ M, M = (n % 64).toNat + 1 := ⟨_, rfl⟩
  rw [← hM] at s1 ⊢
  have hM64 : M ≤ 64 := by rw [hM]; omega
  have S1 := Lib.hid (And.intro s1 b1)
  clear s1 b1 O hM
  go_wp2_with fail
  refine (fixed_any w1).mono ?_
  rintro _ w2 ⟨d2, rfl, b2⟩
  have S2 : Hid (Sp w.heap.size w2 d sb 2 (opS M ms) ∧ Below w.heap.size w w2) := Lib.hid ⟨S1.out.1.below b2, S1.out.2.trans (b2.mono S1.out.2.size)⟩
  clear b2 S1
  go_wp2_with fail
  go_loopg [10] N1 (fun g si wr => ∃ (k : Nat) (l : List UInt8), k ≤ N1 ∧ g = N1 - k ∧ si = .int .i64 k ∧ l.length = M ∧ Sp w.heap.size wr d sb 2 l ∧ Below w.heap.size w wr)
  case atStart => exact ⟨0, _, Nat.zero_le _, rfl, rfl, opS_length M ms, S2.out⟩
  case round =>
    obtain ⟨k, l, hk, hg, rfl, hlM, hs, hb⟩ := hrel
    have S := Lib.hid (And.intro hlM (And.intro hs hb))
    have G := Lib.hid hg
    clear hg hlM hs hb S2
    by_cases hlt : k < N1 ∧ k < 400
    · have hlt1 : (k : Int) < (N1 : Int) := by omega
      have hlt2 : (k : Int) < 400 := by omega
      have g1 : decide ((k : Int) < (N1 : Int)) = true := decide_eq_true hlt1
      have g2 : decide ((k : Int) < 400) = true := decide_eq_true hlt2
      obtain ⟨x, hx⟩ : ∃ x, t1[k]? = some x := ⟨_, List.getElem?_eq_getElem (by rw [← NN1.out]; exact hlt.1)⟩
      have HB := Lib.hid (H1.out.1 x (List.mem_of_getElem? hx))
      obtain ⟨b, off, cp, e1, _, _, r1⟩ := (H1.out.below S.out.2.2).at k x hx
      simp only [Value.slice.injEq] at e1
      obtain ⟨rfl, -, rfl⟩ := e1
      have R1 := Lib.hid r1
      clear r1 hx
      go_wp2_with (refine wpList_load_mid rfl 38 (.tmp 41) rfl b (off + k * 3) rfl x.cells _ R1.out Try.underlying38 rfl size_op ?_)
      refine (play_any S.out.2.1 x HB.out).mono ?_
      rintro _ w3 ⟨rfl, s3, k3⟩
      have S3 : Hid ((stepR 2 x.kind x.block l).length = M ∧ Sp w.heap.size w3 d sb 2 (stepR 2 x.kind x.block l) ∧ Below w.heap.size w w3) := Lib.hid ⟨by rw [stepR_length]; exact S.out.1, s3, S.out.2.1.trans S.out.2.2 k3⟩
      clear s3 k3 S
      go_wp2_with fail
      go_roundg (N1 - (k + 1))
      case measure => have := G.out; omega
      case rel => exact ⟨k + 1, _, by omega, rfl, by go_num, S3.out⟩
    · have GD : Hid ((decide ((k : Int) < (N1 : Int)) = false ∧ decide (k < N1) = false) ∨ (decide ((k : Int) < (N1 : Int)) = true ∧ decide (k < N1) = true ∧ decide ((k : Int) < 400) = false ∧ decide (k < 400) = false)) := Lib.hid (by
        by_cases q : k < N1
        · exact Or.inr ⟨decide_eq_true (by omega), decide_eq_true (by omega), decide_eq_false (by omega), decide_eq_false (by omega)⟩
        · exact Or.inl ⟨decide_eq_false (by omega), decide_eq_false (by omega)⟩)
      clear hlt
      have CM := Lib.hid (commit_any S.out.2.1)
      obtain ⟨l2, hl2⟩ : ∃ l2, l2 = stlR 2 0 l := ⟨_, rfl⟩
      rw [← hl2] at CM
      have SN : Hid (Since l2 l2 ∧ l2.length = M) := Lib.hid (by rw [hl2]; exact ⟨since_commit S.out.2.1.ok, by rw [stlR_length]; exact S.out.1⟩)
      clear hl2
      rcases GD.out with ⟨g1, g2⟩ | ⟨g1, g2, g3, g4⟩
      · go_wp2_with fail
        refine CM.out.mono ?_
        rintro _ w3 ⟨rfl, s3, k3⟩
        have S3 : Hid (Sp w.heap.size w3 d sb 2 l2 ∧ Below w.heap.size w w3) := Lib.hid ⟨s3, S.out.2.1.trans S.out.2.2 k3⟩
        clear s3 k3 S CM
        go_wp2_with fail
        refine (taken_any S3.out.1).mono ?_
        rintro _ w4 ⟨uo, rfl, o4, b4⟩
        have S4 : Hid (Sp w.heap.size w4 d sb 2 l2 ∧ Below w.heap.size w w4 ∧ OwnI w.heap.size w4 uo (those [1, 2] 2 l2)) := Lib.hid ⟨S3.out.1.below b4, S3.out.2.trans (b4.mono S3.out.2.size), o4.mono S3.out.2.size⟩
        obtain ⟨ao, co, euo, _, hco⟩ := o4.len
        subst euo
        have hF0 := adds_up 2 l2 (since_sts SN.out.1)
        rw [held_none SN.out.1 2, SN.out.2] at hF0
        obtain ⟨F, hF⟩ : ∃ F, F = freeN l2 := ⟨_, rfl⟩
        obtain ⟨L, hL⟩ : ∃ L, L = (those [1, 2] 2 l2).length := ⟨_, rfl⟩
        rw [← hF, ← hL] at hF0
        have FF := Lib.hid hF
        have FR : Hid (Calls Try.prog 18 #[.pointer (some ⟨d, 0, none⟩)] w4 fun e w' => e = .returned (.int .i64 F) ∧ w' = w4) := Lib.hid (by rw [hF]; exact free_any S4.out.1)
        rw [← hL] at S4 ⊢
        have hFL : (F : Int) + (L : Int) = (M : Int) := by simp at hF0; omega
        clear o4 b4 S3 hF hL hF0
        go_wp2_with fail
        refine FR.out.mono ?_
        rintro _ _ ⟨rfl, rfl⟩
        clear FR
        go_wp2_with fail
        refine (held_any S4.out.1).mono ?_
        rintro _ w5 ⟨uh, rfl, o5, b5⟩
        have S5 : Hid (Sp w.heap.size w5 d sb 2 l2 ∧ Below w.heap.size w w5 ∧ OwnI w.heap.size w5 (.slice ao L co) (those [1, 2] 2 l2)) := Lib.hid ⟨S4.out.1.below b5, S4.out.2.1.trans (b5.mono S4.out.2.1.size), S4.out.2.2.below b5⟩
        rw [held_none SN.out.1 2] at o5
        obtain ⟨ah, ch, euh, _, hch⟩ := o5.len
        subst euh
        clear o5 b5 S4
        go_wp2_with fail
        go_loopg [13] N2 (fun g si wr => ∃ (k : Nat) (l : List UInt8), k ≤ N2 ∧ g = N2 - k ∧ si = .int .i64 k ∧ Since l2 l ∧ Sp w.heap.size wr d sb 2 l ∧ Below w.heap.size w wr ∧ OwnI w.heap.size wr (.slice ao L co) (those [1, 2] 2 l2))
        case atStart => exact ⟨0, l2, Nat.zero_le _, rfl, rfl, SN.out.1, S5.out⟩
        case round =>
          obtain ⟨j, l3, hj, hg, rfl, hsn, hs, hb, ho⟩ := hrel
          have Q := Lib.hid (And.intro hsn (And.intro hs (And.intro hb ho)))
          have G2 := Lib.hid hg
          clear hg hsn hs hb ho S5
          by_cases hlt2 : j < N2 ∧ j < 400
          · have q1 : (j : Int) < (N2 : Int) := by omega
            have q2 : (j : Int) < 400 := by omega
            have f1 : decide ((j : Int) < (N2 : Int)) = true := decide_eq_true q1
            have f2 : decide ((j : Int) < 400) = true := decide_eq_true q2
            obtain ⟨x, hx⟩ : ∃ x, t2[j]? = some x := ⟨_, List.getElem?_eq_getElem (by rw [← NN2.out]; exact hlt2.1)⟩
            have HB := Lib.hid (H2.out.1 x (List.mem_of_getElem? hx))
            obtain ⟨b, off, cp, e1, _, _, r1⟩ := (H2.out.below Q.out.2.2.1).at j x hx
            simp only [Value.slice.injEq] at e1
            obtain ⟨rfl, -, rfl⟩ := e1
            have RA : Hid (∀ W, Below w.heap.size w W → W.rangeAt b (off + j * 3) x.cells) := Lib.hid (fun W hW => by
              obtain ⟨b', off', cp', e1, _, _, r1⟩ := (H2.out.below hW).at j x hx
              simp only [Value.slice.injEq, Option.some.injEq, Addr.mk.injEq, and_true] at e1
              obtain ⟨⟨rfl, rfl⟩, -, rfl⟩ := e1
              exact r1)
            have c1 : wr.cell? ⟨b, off + j * 3 + 1, none⟩ = some (.int .i64 x.kind) := r1 1 _ rfl
            have c2 : wr.cell? ⟨b, off + j * 3 + 2, none⟩ = some (.int .i64 x.block) := r1 2 _ rfl
            clear r1 hx
            by_cases k1 : x.kind = 1
            · have g5 : (x.kind == 1) = true := by rw [k1]; rfl
              have g6 : (x.kind == 2) = false := by rw [k1]; rfl
              clear k1
              have TK := Lib.hid (take_any Q.out.2.1)
              by_cases hlow : lowF l3 < l3.length
              · have T : takeR 2 l3 = (((2 + lowF l3 : Nat) : Int), 0, l3.set (lowF l3) 1) := by unfold takeR; rw [if_pos hlow]
                have NI := Lib.hid (take_new Q.out.1 2 hlow)
                have SN3 := Lib.hid (since_take Q.out.1 2)
                rw [T] at TK SN3
                obtain ⟨tb, htb⟩ : ∃ tb, tb = ((2 + lowF l3 : Nat) : Int) := ⟨_, rfl⟩
                obtain ⟨l4, hl4⟩ : ∃ l4, l4 = l3.set (lowF l3) 1 := ⟨_, rfl⟩
                rw [← htb] at TK NI
                rw [← hl4] at TK SN3
                clear T htb hl4 hlow
                go_wp2_with fail
                refine TK.out.mono ?_
                rintro _ w6 ⟨rfl, s6, k6⟩
                have S6 : Hid (Sp w.heap.size w6 d sb 2 l4 ∧ Below w.heap.size w w6 ∧ OwnI w.heap.size w6 (.slice ao L co) (those [1, 2] 2 l2)) := Lib.hid ⟨s6, Q.out.2.1.trans Q.out.2.2.1 k6, Q.out.2.2.2.sp Q.out.2.1 k6⟩
                clear s6 k6 TK
                have IN : Hid (Calls Try.prog 21 #[.slice ao L co, .int .i64 tb] w6 fun e w' => e = .returned (.bool false) ∧ w' = w6) := Lib.hid (by
                  have := in_any _ _ tb w6 S6.out.2.2.ints
                  rw [decide_eq_false NI.out] at this
                  exact this)
                have d1 : w6.cell? ⟨b, off + j * 3 + 1, none⟩ = some (.int .i64 x.kind) := RA.out w6 S6.out.2.1 1 _ rfl
                clear c1 c2
                go_wp2_with fail
                refine IN.out.mono ?_
                rintro _ _ ⟨rfl, rfl⟩
                go_wp2_with fail
                go_roundg (N2 - (j + 1))
                case measure => have := G2.out; omega
                case rel => exact ⟨j + 1, l4, by omega, rfl, by go_num, SN3.out, S6.out⟩
              · have T : takeR 2 l3 = (-1, 3, l3) := by unfold takeR; rw [if_neg hlow]
                rw [T] at TK
                clear T hlow
                go_wp2_with fail
                refine TK.out.mono ?_
                rintro _ w6 ⟨rfl, s6, k6⟩
                have S6 : Hid (Sp w.heap.size w6 d sb 2 l3 ∧ Below w.heap.size w w6 ∧ OwnI w.heap.size w6 (.slice ao L co) (those [1, 2] 2 l2)) := Lib.hid ⟨s6, Q.out.2.1.trans Q.out.2.2.1 k6, Q.out.2.2.2.sp Q.out.2.1 k6⟩
                clear s6 k6 TK
                have d1 : w6.cell? ⟨b, off + j * 3 + 1, none⟩ = some (.int .i64 x.kind) := RA.out w6 S6.out.2.1 1 _ rfl
                clear c1 c2
                go_wp2_with fail
                go_roundg (N2 - (j + 1))
                case measure => have := G2.out; omega
                case rel => exact ⟨j + 1, l3, by omega, rfl, by go_num, Q.out.1, S6.out⟩
            · have g5 : (x.kind == 1) = false := by rw [beq_eq_false_iff_ne]; exact k1
              by_cases k2 : x.kind = 2
              · have g6 : (x.kind == 2) = true := by rw [k2]; rfl
                have SN3 := Lib.hid (since_give Q.out.1 2 x.block)
                clear k1 k2
                go_wp2_with fail
                refine (give_any Q.out.2.1 x.block HB.out).mono ?_
                rintro _ w6 ⟨rfl, s6, k6⟩
                have S6 : Hid (Sp w.heap.size w6 d sb 2 (giveR 2 l3 x.block).2 ∧ Below w.heap.size w w6 ∧ OwnI w.heap.size w6 (.slice ao L co) (those [1, 2] 2 l2)) := Lib.hid ⟨s6, Q.out.2.1.trans Q.out.2.2.1 k6, Q.out.2.2.2.sp Q.out.2.1 k6⟩
                clear s6 k6
                go_wp2_with fail
                go_roundg (N2 - (j + 1))
                case measure => have := G2.out; omega
                case rel => exact ⟨j + 1, _, by omega, rfl, by go_num, SN3.out, S6.out⟩
              · have g6 : (x.kind == 2) = false := by rw [beq_eq_false_iff_ne]; exact k2
                clear k1 k2
                go_wp2_with fail
                go_roundg (N2 - (j + 1))
                case measure => have := G2.out; omega
                case rel => exact ⟨j + 1, l3, by omega, rfl, by go_num, Q.out⟩
          · have GD2 : Hid ((decide ((j : Int) < (N2 : Int)) = false ∧ decide (j < N2) = false) ∨ (decide ((j : Int) < (N2 : Int)) = true ∧ decide (j < N2) = true ∧ decide ((j : Int) < 400) = false ∧ decide (j < 400) = false)) := Lib.hid (by
              by_cases q : j < N2
              · exact Or.inr ⟨decide_eq_true (by omega), decide_eq_true (by omega), decide_eq_false (by omega), decide_eq_false (by omega)⟩
              · exact Or.inl ⟨decide_eq_false (by omega), decide_eq_false (by omega)⟩)
            clear hlt2
            have BK := Lib.hid (back_any Q.out.2.1)
            rw [since_back Q.out.1] at BK
            rcases GD2.out with ⟨f1, f2⟩ | ⟨f1, f2, f3, f4⟩
            · go_wp2_with fail
              refine BK.out.mono ?_
              rintro _ w6 ⟨rfl, s6, k6⟩
              have S6 : Hid (Sp w.heap.size w6 d sb 2 l2 ∧ Below w.heap.size w w6 ∧ OwnI w.heap.size w6 (.slice ao L co) (those [1, 2] 2 l2)) := Lib.hid ⟨s6, Q.out.2.1.trans Q.out.2.2.1 k6, Q.out.2.2.2.sp Q.out.2.1 k6⟩
              clear s6 k6 BK
              go_wp2_with fail
              refine (taken_any S6.out.1).mono ?_
              rintro _ w7 ⟨u7, rfl, o7, b7⟩
              have S7 : Hid (Sp w.heap.size w7 d sb 2 l2 ∧ Below w.heap.size w w7) := Lib.hid ⟨S6.out.1.below b7, S6.out.2.1.trans (b7.mono S6.out.2.1.size)⟩
              have SI := Lib.hid (sameInts_yes _ _ _ w7 o7.ints (S6.out.2.2.below b7).ints)
              obtain ⟨a7, c7, e7, _⟩ := o7.len
              subst e7
              clear o7 b7 S6
              go_wp2_with fail
              refine SI.out.mono ?_
              rintro _ w8 ⟨rfl, b8⟩
              have S8 : Hid (Sp w.heap.size w8 d sb 2 l2 ∧ Below w.heap.size w w8) := Lib.hid ⟨S7.out.1.below b8, S7.out.2.trans (b8.mono S7.out.2.size)⟩
              clear b8 S7 SI
              go_wp2_with fail
              refine (held_any S8.out.1).mono ?_
              rintro _ w9 ⟨u9, rfl, o9, b9⟩
              have S9 : Hid (Sp w.heap.size w9 d sb 2 l2 ∧ Below w.heap.size w w9) := Lib.hid ⟨S8.out.1.below b9, S8.out.2.trans (b9.mono S8.out.2.size)⟩
              rw [held_none SN.out.1 2] at o9
              obtain ⟨a9, c9, e9, _⟩ := o9.len
              subst e9
              have FR : Hid (Calls Try.prog 18 #[.pointer (some ⟨d, 0, none⟩)] w9 fun e w' => e = .returned (.int .i64 F) ∧ w' = w9) := Lib.hid (by rw [FF.out]; exact free_any S9.out.1)
              clear o9 b9 S8
              go_wp2_with fail
              refine FR.out.mono ?_
              rintro _ _ ⟨rfl, rfl⟩
              go_wp2_with fail
              go_ret
              exact ⟨rfl, S9.out.2⟩
            · go_wp2_with fail
              refine BK.out.mono ?_
              rintro _ w6 ⟨rfl, s6, k6⟩
              have S6 : Hid (Sp w.heap.size w6 d sb 2 l2 ∧ Below w.heap.size w w6 ∧ OwnI w.heap.size w6 (.slice ao L co) (those [1, 2] 2 l2)) := Lib.hid ⟨s6, Q.out.2.1.trans Q.out.2.2.1 k6, Q.out.2.2.2.sp Q.out.2.1 k6⟩
              clear s6 k6 BK
              go_wp2_with fail
              refine (taken_any S6.out.1).mono ?_
              rintro _ w7 ⟨u7, rfl, o7, b7⟩
              have S7 : Hid (Sp w.heap.size w7 d sb 2 l2 ∧ Below w.heap.size w w7) := Lib.hid ⟨S6.out.1.below b7, S6.out.2.1.trans (b7.mono S6.out.2.1.size)⟩
              have SI := Lib.hid (sameInts_yes _ _ _ w7 o7.ints (S6.out.2.2.below b7).ints)
              obtain ⟨a7, c7, e7, _⟩ := o7.len
              subst e7
              clear o7 b7 S6
              go_wp2_with fail
              refine SI.out.mono ?_
              rintro _ w8 ⟨rfl, b8⟩
              have S8 : Hid (Sp w.heap.size w8 d sb 2 l2 ∧ Below w.heap.size w w8) := Lib.hid ⟨S7.out.1.below b8, S7.out.2.trans (b8.mono S7.out.2.size)⟩
              clear b8 S7 SI
              go_wp2_with fail
              refine (held_any S8.out.1).mono ?_
              rintro _ w9 ⟨u9, rfl, o9, b9⟩
              have S9 : Hid (Sp w.heap.size w9 d sb 2 l2 ∧ Below w.heap.size w w9) := Lib.hid ⟨S8.out.1.below b9, S8.out.2.trans (b9.mono S8.out.2.size)⟩
              rw [held_none SN.out.1 2] at o9
              obtain ⟨a9, c9, e9, _⟩ := o9.len
              subst e9
              have FR : Hid (Calls Try.prog 18 #[.pointer (some ⟨d, 0, none⟩)] w9 fun e w' => e = .returned (.int .i64 F) ∧ w' = w9) := Lib.hid (by rw [FF.out]; exact free_any S9.out.1)
              clear o9 b9 S8
              go_wp2_with fail
              refine FR.out.mono ?_
              rintro _ _ ⟨rfl, rfl⟩
              go_wp2_with fail
              go_ret
              exact ⟨rfl, S9.out.2⟩
      · go_wp2_with fail
        refine CM.out.mono ?_
        rintro _ w3 ⟨rfl, s3, k3⟩
        have S3 : Hid (Sp w.heap.size w3 d sb 2 l2 ∧ Below w.heap.size w w3) := Lib.hid ⟨s3, S.out.2.1.trans S.out.2.2 k3⟩
        clear s3 k3 S CM
        go_wp2_with fail
        refine (taken_any S3.out.1).mono ?_
        rintro _ w4 ⟨uo, rfl, o4, b4⟩
        have S4 : Hid (Sp w.heap.size w4 d sb 2 l2 ∧ Below w.heap.size w w4 ∧ OwnI w.heap.size w4 uo (those [1, 2] 2 l2)) := Lib.hid ⟨S3.out.1.below b4, S3.out.2.trans (b4.mono S3.out.2.size), o4.mono S3.out.2.size⟩
        obtain ⟨ao, co, euo, _, hco⟩ := o4.len
        subst euo
        have hF0 := adds_up 2 l2 (since_sts SN.out.1)
        rw [held_none SN.out.1 2, SN.out.2] at hF0
        obtain ⟨F, hF⟩ : ∃ F, F = freeN l2 := ⟨_, rfl⟩
        obtain ⟨L, hL⟩ : ∃ L, L = (those [1, 2] 2 l2).length := ⟨_, rfl⟩
        rw [← hF, ← hL] at hF0
        have FF := Lib.hid hF
        have FR : Hid (Calls Try.prog 18 #[.pointer (some ⟨d, 0, none⟩)] w4 fun e w' => e = .returned (.int .i64 F) ∧ w' = w4) := Lib.hid (by rw [hF]; exact free_any S4.out.1)
        rw [← hL] at S4 ⊢
        have hFL : (F : Int) + (L : Int) = (M : Int) := by simp at hF0; omega
        clear o4 b4 S3 hF hL hF0
        go_wp2_with fail
        refine FR.out.mono ?_
        rintro _ _ ⟨rfl, rfl⟩
        clear FR
        go_wp2_with fail
        refine (held_any S4.out.1).mono ?_
        rintro _ w5 ⟨uh, rfl, o5, b5⟩
        have S5 : Hid (Sp w.heap.size w5 d sb 2 l2 ∧ Below w.heap.size w w5 ∧ OwnI w.heap.size w5 (.slice ao L co) (those [1, 2] 2 l2)) := Lib.hid ⟨S4.out.1.below b5, S4.out.2.1.trans (b5.mono S4.out.2.1.size), S4.out.2.2.below b5⟩
        rw [held_none SN.out.1 2] at o5
        obtain ⟨ah, ch, euh, _, hch⟩ := o5.len
        subst euh
        clear o5 b5 S4
        go_wp2_with fail
        go_loopg [13] N2 (fun g si wr => ∃ (k : Nat) (l : List UInt8), k ≤ N2 ∧ g = N2 - k ∧ si = .int .i64 k ∧ Since l2 l ∧ Sp w.heap.size wr d sb 2 l ∧ Below w.heap.size w wr ∧ OwnI w.heap.size wr (.slice ao L co) (those [1, 2] 2 l2))
        case atStart => exact ⟨0, l2, Nat.zero_le _, rfl, rfl, SN.out.1, S5.out⟩
        case round =>
          obtain ⟨j, l3, hj, hg, rfl, hsn, hs, hb, ho⟩ := hrel
          have Q := Lib.hid (And.intro hsn (And.intro hs (And.intro hb ho)))
          have G2 := Lib.hid hg
          clear hg hsn hs hb ho S5
          by_cases hlt2 : j < N2 ∧ j < 400
          · have q1 : (j : Int) < (N2 : Int) := by omega
            have q2 : (j : Int) < 400 := by omega
            have f1 : decide ((j : Int) < (N2 : Int)) = true := decide_eq_true q1
            have f2 : decide ((j : Int) < 400) = true := decide_eq_true q2
            obtain ⟨x, hx⟩ : ∃ x, t2[j]? = some x := ⟨_, List.getElem?_eq_getElem (by rw [← NN2.out]; exact hlt2.1)⟩
            have HB := Lib.hid (H2.out.1 x (List.mem_of_getElem? hx))
            obtain ⟨b, off, cp, e1, _, _, r1⟩ := (H2.out.below Q.out.2.2.1).at j x hx
            simp only [Value.slice.injEq] at e1
            obtain ⟨rfl, -, rfl⟩ := e1
            have RA : Hid (∀ W, Below w.heap.size w W → W.rangeAt b (off + j * 3) x.cells) := Lib.hid (fun W hW => by
              obtain ⟨b', off', cp', e1, _, _, r1⟩ := (H2.out.below hW).at j x hx
              simp only [Value.slice.injEq, Option.some.injEq, Addr.mk.injEq, and_true] at e1
              obtain ⟨⟨rfl, rfl⟩, -, rfl⟩ := e1
              exact r1)
            have c1 : wr.cell? ⟨b, off + j * 3 + 1, none⟩ = some (.int .i64 x.kind) := r1 1 _ rfl
            have c2 : wr.cell? ⟨b, off + j * 3 + 2, none⟩ = some (.int .i64 x.block) := r1 2 _ rfl
            clear r1 hx
            by_cases k1 : x.kind = 1
            · have g5 : (x.kind == 1) = true := by rw [k1]; rfl
              have g6 : (x.kind == 2) = false := by rw [k1]; rfl
              clear k1
              have TK := Lib.hid (take_any Q.out.2.1)
              by_cases hlow : lowF l3 < l3.length
              · have T : takeR 2 l3 = (((2 + lowF l3 : Nat) : Int), 0, l3.set (lowF l3) 1) := by unfold takeR; rw [if_pos hlow]
                have NI := Lib.hid (take_new Q.out.1 2 hlow)
                have SN3 := Lib.hid (since_take Q.out.1 2)
                rw [T] at TK SN3
                obtain ⟨tb, htb⟩ : ∃ tb, tb = ((2 + lowF l3 : Nat) : Int) := ⟨_, rfl⟩
                obtain ⟨l4, hl4⟩ : ∃ l4, l4 = l3.set (lowF l3) 1 := ⟨_, rfl⟩
                rw [← htb] at TK NI
                rw [← hl4] at TK SN3
                clear T htb hl4 hlow
                go_wp2_with fail
                refine TK.out.mono ?_
                rintro _ w6 ⟨rfl, s6, k6⟩
                have S6 : Hid (Sp w.heap.size w6 d sb 2 l4 ∧ Below w.heap.size w w6 ∧ OwnI w.heap.size w6 (.slice ao L co) (those [1, 2] 2 l2)) := Lib.hid ⟨s6, Q.out.2.1.trans Q.out.2.2.1 k6, Q.out.2.2.2.sp Q.out.2.1 k6⟩
                clear s6 k6 TK
                have IN : Hid (Calls Try.prog 21 #[.slice ao L co, .int .i64 tb] w6 fun e w' => e = .returned (.bool false) ∧ w' = w6) := Lib.hid (by
                  have := in_any _ _ tb w6 S6.out.2.2.ints
                  rw [decide_eq_false NI.out] at this
                  exact this)
                have d1 : w6.cell? ⟨b, off + j * 3 + 1, none⟩ = some (.int .i64 x.kind) := RA.out w6 S6.out.2.1 1 _ rfl
                clear c1 c2
                go_wp2_with fail
                refine IN.out.mono ?_
                rintro _ _ ⟨rfl, rfl⟩
                go_wp2_with fail
                go_roundg (N2 - (j + 1))
                case measure => have := G2.out; omega
                case rel => exact ⟨j + 1, l4, by omega, rfl, by go_num, SN3.out, S6.out⟩
              · have T : takeR 2 l3 = (-1, 3, l3) := by unfold takeR; rw [if_neg hlow]
                rw [T] at TK
                clear T hlow
                go_wp2_with fail
                refine TK.out.mono ?_
                rintro _ w6 ⟨rfl, s6, k6⟩
                have S6 : Hid (Sp w.heap.size w6 d sb 2 l3 ∧ Below w.heap.size w w6 ∧ OwnI w.heap.size w6 (.slice ao L co) (those [1, 2] 2 l2)) := Lib.hid ⟨s6, Q.out.2.1.trans Q.out.2.2.1 k6, Q.out.2.2.2.sp Q.out.2.1 k6⟩
                clear s6 k6 TK
                have d1 : w6.cell? ⟨b, off + j * 3 + 1, none⟩ = some (.int .i64 x.kind) := RA.out w6 S6.out.2.1 1 _ rfl
                clear c1 c2
                go_wp2_with fail
                go_roundg (N2 - (j + 1))
                case measure => have := G2.out; omega
                case rel => exact ⟨j + 1, l3, by omega, rfl, by go_num, Q.out.1, S6.out⟩
            · have g5 : (x.kind == 1) = false := by rw [beq_eq_false_iff_ne]; exact k1
              by_cases k2 : x.kind = 2
              · have g6 : (x.kind == 2) = true := by rw [k2]; rfl
                have SN3 := Lib.hid (since_give Q.out.1 2 x.block)
                clear k1 k2
                go_wp2_with fail
                refine (give_any Q.out.2.1 x.block HB.out).mono ?_
                rintro _ w6 ⟨rfl, s6, k6⟩
                have S6 : Hid (Sp w.heap.size w6 d sb 2 (giveR 2 l3 x.block).2 ∧ Below w.heap.size w w6 ∧ OwnI w.heap.size w6 (.slice ao L co) (those [1, 2] 2 l2)) := Lib.hid ⟨s6, Q.out.2.1.trans Q.out.2.2.1 k6, Q.out.2.2.2.sp Q.out.2.1 k6⟩
                clear s6 k6
                go_wp2_with fail
                go_roundg (N2 - (j + 1))
                case measure => have := G2.out; omega
                case rel => exact ⟨j + 1, _, by omega, rfl, by go_num, SN3.out, S6.out⟩
              · have g6 : (x.kind == 2) = false := by rw [beq_eq_false_iff_ne]; exact k2
                clear k1 k2
                go_wp2_with fail
                go_roundg (N2 - (j + 1))
                case measure => have := G2.out; omega
                case rel => exact ⟨j + 1, l3, by omega, rfl, by go_num, Q.out⟩
          · have GD2 : Hid ((decide ((j : Int) < (N2 : Int)) = false ∧ decide (j < N2) = false) ∨ (decide ((j : Int) < (N2 : Int)) = true ∧ decide (j < N2) = true ∧ decide ((j : Int) < 400) = false ∧ decide (j < 400) = false)) := Lib.hid (by
              by_cases q : j < N2
              · exact Or.inr ⟨decide_eq_true (by omega), decide_eq_true (by omega), decide_eq_false (by omega), decide_eq_false (by omega)⟩
              · exact Or.inl ⟨decide_eq_false (by omega), decide_eq_false (by omega)⟩)
            clear hlt2
            have BK := Lib.hid (back_any Q.out.2.1)
            rw [since_back Q.out.1] at BK
            rcases GD2.out with ⟨f1, f2⟩ | ⟨f1, f2, f3, f4⟩
            · go_wp2_with fail
              refine BK.out.mono ?_
              rintro _ w6 ⟨rfl, s6, k6⟩
              have S6 : Hid (Sp w.heap.size w6 d sb 2 l2 ∧ Below w.heap.size w w6 ∧ OwnI w.heap.size w6 (.slice ao L co) (those [1, 2] 2 l2)) := Lib.hid ⟨s6, Q.out.2.1.trans Q.out.2.2.1 k6, Q.out.2.2.2.sp Q.out.2.1 k6⟩
              clear s6 k6 BK
              go_wp2_with fail
              refine (taken_any S6.out.1).mono ?_
              rintro _ w7 ⟨u7, rfl, o7, b7⟩
              have S7 : Hid (Sp w.heap.size w7 d sb 2 l2 ∧ Below w.heap.size w w7) := Lib.hid ⟨S6.out.1.below b7, S6.out.2.1.trans (b7.mono S6.out.2.1.size)⟩
              have SI := Lib.hid (sameInts_yes _ _ _ w7 o7.ints (S6.out.2.2.below b7).ints)
              obtain ⟨a7, c7, e7, _⟩ := o7.len
              subst e7
              clear o7 b7 S6
              go_wp2_with fail
              refine SI.out.mono ?_
              rintro _ w8 ⟨rfl, b8⟩
              have S8 : Hid (Sp w.heap.size w8 d sb 2 l2 ∧ Below w.heap.size w w8) := Lib.hid ⟨S7.out.1.below b8, S7.out.2.trans (b8.mono S7.out.2.size)⟩
              clear b8 S7 SI
              go_wp2_with fail
              refine (held_any S8.out.1).mono ?_
              rintro _ w9 ⟨u9, rfl, o9, b9⟩
              have S9 : Hid (Sp w.heap.size w9 d sb 2 l2 ∧ Below w.heap.size w w9) := Lib.hid ⟨S8.out.1.below b9, S8.out.2.trans (b9.mono S8.out.2.size)⟩
              rw [held_none SN.out.1 2] at o9
              obtain ⟨a9, c9, e9, _⟩ := o9.len
              subst e9
              have FR : Hid (Calls Try.prog 18 #[.pointer (some ⟨d, 0, none⟩)] w9 fun e w' => e = .returned (.int .i64 F) ∧ w' = w9) := Lib.hid (by rw [FF.out]; exact free_any S9.out.1)
              clear o9 b9 S8
              go_wp2_with fail
              refine FR.out.mono ?_
              rintro _ _ ⟨rfl, rfl⟩
              go_wp2_with fail
              go_ret
              exact ⟨rfl, S9.out.2⟩
            · go_wp2_with fail
              refine BK.out.mono ?_
              rintro _ w6 ⟨rfl, s6, k6⟩
              have S6 : Hid (Sp w.heap.size w6 d sb 2 l2 ∧ Below w.heap.size w w6 ∧ OwnI w.heap.size w6 (.slice ao L co) (those [1, 2] 2 l2)) := Lib.hid ⟨s6, Q.out.2.1.trans Q.out.2.2.1 k6, Q.out.2.2.2.sp Q.out.2.1 k6⟩
              clear s6 k6 BK
              go_wp2_with fail
              refine (taken_any S6.out.1).mono ?_
              rintro _ w7 ⟨u7, rfl, o7, b7⟩
              have S7 : Hid (Sp w.heap.size w7 d sb 2 l2 ∧ Below w.heap.size w w7) := Lib.hid ⟨S6.out.1.below b7, S6.out.2.1.trans (b7.mono S6.out.2.1.size)⟩
              have SI := Lib.hid (sameInts_yes _ _ _ w7 o7.ints (S6.out.2.2.below b7).ints)
              obtain ⟨a7, c7, e7, _⟩ := o7.len
              subst e7
              clear o7 b7 S6
              go_wp2_with fail
              refine SI.out.mono ?_
              rintro _ w8 ⟨rfl, b8⟩
              have S8 : Hid (Sp w.heap.size w8 d sb 2 l2 ∧ Below w.heap.size w w8) := Lib.hid ⟨S7.out.1.below b8, S7.out.2.trans (b8.mono S7.out.2.size)⟩
              clear b8 S7 SI
              go_wp2_with fail
              refine (held_any S8.out.1).mono ?_
              rintro _ w9 ⟨u9, rfl, o9, b9⟩
              have S9 : Hid (Sp w.heap.size w9 d sb 2 l2 ∧ Below w.heap.size w w9) := Lib.hid ⟨S8.out.1.below b9, S8.out.2.trans (b9.mono S8.out.2.size)⟩
              rw [held_none SN.out.1 2] at o9
              obtain ⟨a9, c9, e9, _⟩ := o9.len
              subst e9
              have FR : Hid (Calls Try.prog 18 #[.pointer (some ⟨d, 0, none⟩)] w9 fun e w' => e = .returned (.int .i64 F) ∧ w' = w9) := Lib.hid (by rw [FF.out]; exact free_any S9.out.1)
              clear o9 b9 S8
              go_wp2_with fail
              refine FR.out.mono ?_
              rintro _ _ ⟨rfl, rfl⟩
              go_wp2_with fail
              go_ret
              exact ⟨rfl, S9.out.2⟩
end Go.Proofs.Ytfdhccanacpanaa
