/-
  SpaceGoesAgain.
-/
import Derived.Test.YtfdhccanacpanaaGaA
import Derived.Deep.CutBlock
import Derived.Deep.DeepCutAuto
namespace Go.Proofs.Ytfdhccanacpanaa
open Go.RowKit
set_option maxRecDepth 100000 in
set_option maxHeartbeats 8000000 in
theorem spaceGoesAgain_walk (n : Int) (v : Value) (ms : List Bool) (v1 : Value) (t1 : List OpS) (v2 : Value) (t2 : List OpS) (w : World) (_hn : -9223372036854775808 ≤ n ∧ n < 9223372036854775808)
    (hv : Bools w v ms) (_hl : ms.length ≤ 140737488355328) (h1 : OpsS w v1 t1) (_hl1 : t1.length ≤ 140737488355328) (h2 : OpsS w v2 t2) (_hl2 : t2.length ≤ 140737488355328) :
    Calls Try.prog 4 #[.int .i64 n, v, v1, v2] w fun e w' => e = .returned (.bool true) ∧ Below w.heap.size w w' := by
  have O := Lib.hid (open_any n _ (and_63 n) (mod64 n) v ms w hv)
  have H1 := Lib.hid h1
  have H2 := Lib.hid h2
  obtain ⟨av1, cap1, rfl, hc1, hm1⟩ := h1.len
  obtain ⟨av2, cap2, rfl, hc2, hm2⟩ := h2.len
  obtain ⟨am, cm, hvm, _⟩ := hv
  subst hvm
  obtain ⟨N1, hN1⟩ : ∃ N1, N1 = t1.length := ⟨_, rfl⟩
  obtain ⟨N2, hN2⟩ : ∃ N2, N2 = t2.length := ⟨_, rfl⟩
  rw [← hN1] at hc1 H1 ⊢
  rw [← hN2] at hc2 H2 ⊢
  have NN1 := Lib.hid hN1
  have NN2 := Lib.hid hN2
  clear h1 h2 hN1 hN2 _hl _hl1 _hl2 _hn
  go_enter Try.func4, Try.ntmps4
  go_wp2_with fail
  refine O.out.mono ?_
  rintro _ w1 ⟨d, sb, rfl, s1, b1⟩
  obtain ⟨M, hM⟩ : ∃ M, M = (n % 64).toNat + 1 := ⟨_, rfl⟩
  rw [← hM] at s1 ⊢
  have hM64 : M ≤ 64 := by rw [hM]; omega
  have S1 := Lib.hid (And.intro s1 b1)
  clear s1 b1 O hM
  go_wp2_with fail
  refine (fixed_any w1).mono ?_
  rintro _ w2 ⟨d2, rfl, b2⟩
  have S2 : Hid (Sp w.heap.size w2 d sb 2 (opS M ms) ∧ Below w.heap.size w w2) := Lib.hid ⟨S1.out.1.below b2, S1.out.2.trans (b2.mono S1.out.2.size)⟩
  clear b2 S1
  go_wp2_with fail
  go_loopg [11] N1 (fun g si wr => ∃ (k : Nat) (l : List UInt8), k ≤ N1 ∧ g = N1 - k ∧ si = .int .i64 k ∧ l.length = M ∧ Sp w.heap.size wr d sb 2 l ∧ Below w.heap.size w wr)
  case atStart => exact ⟨0, _, Nat.zero_le _, rfl, rfl, opS_length M ms, S2.out⟩
  case round =>
    obtain ⟨k, l, hk, hg, rfl, hlM, hs, hb⟩ := hrel
    have S := Lib.hid (And.intro hlM (And.intro hs hb))
    have G := Lib.hid hg
    clear hg hlM hs hb S2
    by_cases hlt : k < N1 ∧ k < 400
    · have hlt1 : (k : Int) < (N1 : Int) := by omega
      have hlt2 : (k : Int) < 400 := by omega
      have g1 : decide ((k : Int) < (N1 : Int)) = true := decide_eq_true hlt1
      have g2 : decide ((k : Int) < 400) = true := decide_eq_true hlt2
      obtain ⟨x, hx⟩ : ∃ x, t1[k]? = some x := ⟨_, List.getElem?_eq_getElem (by rw [← NN1.out]; exact hlt.1)⟩
      have HB := Lib.hid (H1.out.1 x (List.mem_of_getElem? hx))
      obtain ⟨b, off, cp, e1, _, _, r1⟩ := (H1.out.below S.out.2.2).at k x hx
      simp only [Value.slice.injEq] at e1
      obtain ⟨rfl, -, rfl⟩ := e1
      have R1 := Lib.hid r1
      clear r1 hx
      go_wp2_with (refine wpList_load_mid rfl 38 (.tmp 43) rfl b (off + k * 3) rfl x.cells _ R1.out Try.underlying38 rfl size_op ?_)
      refine (play_any S.out.2.1 x HB.out).mono ?_
      rintro _ w3 ⟨rfl, s3, k3⟩
      have S3 : Hid ((stepR 2 x.kind x.block l).length = M ∧ Sp w.heap.size w3 d sb 2 (stepR 2 x.kind x.block l) ∧ Below w.heap.size w w3) := Lib.hid ⟨by rw [stepR_length]; exact S.out.1, s3, S.out.2.1.trans S.out.2.2 k3⟩
      clear s3 k3 S
      go_wp2_with fail
      go_roundg (N1 - (k + 1))
      case measure => have := G.out; omega
      case rel => exact ⟨k + 1, _, by omega, rfl, by go_num, S3.out⟩
    · have GD : Hid ((decide ((k : Int) < (N1 : Int)) = false ∧ decide (k < N1) = false) ∨ (decide ((k : Int) < (N1 : Int)) = true ∧ decide (k < N1) = true ∧ decide ((k : Int) < 400) = false ∧ decide (k < 400) = false)) := Lib.hid (by
        by_cases q : k < N1
        · exact Or.inr ⟨decide_eq_true (by omega), decide_eq_true (by omega), decide_eq_false (by omega), decide_eq_false (by omega)⟩
        · exact Or.inl ⟨decide_eq_false (by omega), decide_eq_false (by omega)⟩)
      clear hlt
      have CM := Lib.hid (commit_any S.out.2.1)
      obtain ⟨l2, hl2⟩ : ∃ l2, l2 = stlR 2 0 l := ⟨_, rfl⟩
      rw [← hl2] at CM
      have SN : Hid (Since l2 l2 ∧ l2.length = M) := Lib.hid (by rw [hl2]; exact ⟨since_commit S.out.2.1.ok, by rw [stlR_length]; exact S.out.1⟩)
      clear hl2
      obtain ⟨R, hR⟩ : ∃ R, R = gaW (t2.take 400) l2 := ⟨_, rfl⟩
      have RR := Lib.hid hR
      clear hR
      rcases GD.out with ⟨g1, g2⟩ | ⟨g1, g2, g3, g4⟩
      · as_aux_lemma =>
        go_wp2_with fail
        refine CM.out.mono ?_
        rintro _ w3 ⟨rfl, s3, k3⟩
        obtain ⟨X, hX⟩ : ∃ X, X = w3.alloc (.cells #[.slice none 0 0, .slice none 0 0] 39) := ⟨_, rfl⟩
        have bX : Below w3.heap.size w3 X := by rw [hX]; exact (Below.refl _ _).alloc (Nat.le_refl _) _
        have GX : Hid (Ga w X d sb w3.heap.size l2 0 (.slice none 0 0) (.slice none 0 0) [] []) := Lib.hid
          ⟨s3.below bX, (S.out.2.1.trans S.out.2.2 k3).trans (bX.mono (S.out.2.1.trans S.out.2.2 k3).size), by rw [hX, heap_alloc_new]; rfl, (S.out.2.1.trans S.out.2.2 k3).size, by decide, OwnI.nil _ _, OwnI.nil _ _, fun k hk => by simp [Value.ownBlock] at hk⟩
        have hX' := hX.symm
        obtain ⟨g, hg⟩ : ∃ g, g = w3.heap.size := ⟨_, rfl⟩
        rw [← hg] at GX
        have hg' := hg.symm
        clear s3 k3 S CM bX hX hg
        go_wp2_with fail
        clear hX' hg'
        go_loopg [13] 2 (fun q si wr => ∃ (r : Nat) (u0 u1 : Value) (L0 L1 : List Int), r ≤ 2 ∧ q = 2 - r ∧ si = .int .i64 r ∧ Ga w wr d sb g l2 0 u0 u1 L0 L1 ∧ (1 ≤ r → L0 = R) ∧ (r = 0 → L0 = []) ∧ (2 ≤ r → L1 = R) ∧ (r ≤ 1 → L1 = []))
        case atStart => exact ⟨0, _, _, [], [], by omega, rfl, rfl, GX.out, fun h => by omega, fun _ => rfl, fun h => by omega, fun _ => rfl⟩
        case round =>
          obtain ⟨r, u0, u1, L0, L1, hr, hq, rfl, hga, e0, e0', e1, e1'⟩ := hrel
          have G2 := Lib.hid hq
          clear hq GX
          by_cases hr2 : r < 2
          · have hr2' : (r : Int) < 2 := by omega
            have f1 : decide ((r : Int) < 2) = true := decide_eq_true hr2'
            obtain ⟨ua, uo, Lo, HG, HF⟩ : ∃ ua uo Lo, Ga w wr d sb g l2 r ua uo [] Lo ∧ (∀ W' ua', Ga w W' d sb g l2 r ua' uo R Lo → ∃ u0 u1 L0 L1, Ga w W' d sb g l2 0 u0 u1 L0 L1 ∧ (1 ≤ r + 1 → L0 = R) ∧ (r + 1 = 0 → L0 = []) ∧ (2 ≤ r + 1 → L1 = R) ∧ (r + 1 ≤ 1 → L1 = [])) := by
              match r, hr2 with
              | 0, _ =>
                rw [e0' rfl] at hga
                refine ⟨u0, u1, L1, hga, fun W' ua' h => ⟨ua', u1, R, L1, h, fun _ => rfl, fun h => by omega, fun h => by omega, fun _ => e1' (by omega)⟩⟩
              | 1, _ =>
                rw [e0 (by omega), e1' (by omega)] at hga
                refine ⟨u1, u0, R, ⟨hga.sp, hga.bl, hga.arr, hga.gb, by decide, hga.oo, hga.oa, fun k h1 h2 => hga.ap k h2 h1⟩, fun W' ua' h => ⟨u0, ua', R, R, ⟨h.sp, h.bl, h.arr, h.gb, by decide, h.oo, h.oa, fun k h1 h2 => h.ap k h2 h1⟩, fun _ => rfl, fun h => by omega, fun _ => rfl, fun h => by omega⟩⟩
            have GA := Lib.hid HG
            have FIN := Lib.hid HF
            clear HG HF hga e0 e0' e1 e1'
            go_wp2_with fail
            go_loopg [14] N2 (fun q si wr => ∃ (j : Nat) (ua : Value), j ≤ N2 ∧ j ≤ 400 ∧ q = N2 - j ∧ si = .int .i64 j ∧ Ga w wr d sb g (gaR (t2.take j) l2).2 r ua uo (gaR (t2.take j) l2).1 Lo)
            case atStart => exact ⟨0, ua, by omega, by omega, rfl, rfl, GA.out⟩
            case round =>
              clear GA
              obtain ⟨j, ua, hj, hj4, hq, rfl, hga⟩ := hrel
              have GA := Lib.hid hga
              have G3 := Lib.hid hq
              clear hga hq
              have LEN : Hid ((gaR (t2.take j) l2).1.length ≤ 800) := Lib.hid (by have := gaR_len (t2.take j) l2; rw [List.length_take] at this; omega)
              by_cases hlt2 : j < N2 ∧ j < 400
              · have q1 : (j : Int) < (N2 : Int) := by omega
                have q2 : (j : Int) < 400 := by omega
                have f1 : decide ((j : Int) < (N2 : Int)) = true := decide_eq_true q1
                have f2 : decide ((j : Int) < 400) = true := decide_eq_true q2
                obtain ⟨x, hx⟩ : ∃ x, t2[j]? = some x := ⟨_, List.getElem?_eq_getElem (by rw [← NN2.out]; exact hlt2.1)⟩
                have HB := Lib.hid (H2.out.1 x (List.mem_of_getElem? hx))
                have SC : Hid (gaR (t2.take (j + 1)) l2 = ((gaR (t2.take j) l2).1 ++ (gaS x (gaR (t2.take j) l2).2).1, (gaS x (gaR (t2.take j) l2).2).2)) := Lib.hid (by rw [List.take_add_one, hx, Option.toList_some, gaR_snoc])
                obtain ⟨b, off, cp, e1, _, _, r1⟩ := (H2.out.below GA.out.bl).at j x hx
                simp only [Value.slice.injEq] at e1
                obtain ⟨rfl, -, rfl⟩ := e1
                have c1 : wr.cell? ⟨b, off + j * 3 + 1, none⟩ = some (.int .i64 x.kind) := r1 1 _ rfl
                have c2 : wr.cell? ⟨b, off + j * 3 + 2, none⟩ = some (.int .i64 x.block) := r1 2 _ rfl
                clear r1 hx
                obtain ⟨La, hLa⟩ : ∃ La, La = (gaR (t2.take j) l2).1 := ⟨_, rfl⟩
                obtain ⟨l3, hl3⟩ : ∃ l3, l3 = (gaR (t2.take j) l2).2 := ⟨_, rfl⟩
                rw [← hLa, ← hl3] at GA SC
                rw [← hLa] at LEN
                clear hLa hl3
                by_cases k1 : x.kind = 1
                · have g5 : (x.kind == 1) = true := by rw [k1]; rfl
                  have TK := Lib.hid (take_any GA.out.sp)
                  have SS : gaS x l3 = ([(takeR 2 l3).1, (takeR 2 l3).2.1], (takeR 2 l3).2.2) := by unfold gaS; rw [if_pos k1]
                  rw [SS] at SC
                  obtain ⟨tb, htb⟩ : ∃ tb, tb = (takeR 2 l3).1 := ⟨_, rfl⟩
                  obtain ⟨te, hte⟩ : ∃ te, te = (takeR 2 l3).2.1 := ⟨_, rfl⟩
                  obtain ⟨l4, hl4⟩ : ∃ l4, l4 = (takeR 2 l3).2.2 := ⟨_, rfl⟩
                  rw [← htb, ← hte, ← hl4] at TK SC
                  clear k1 SS htb hte hl4
                  go_wp2_with fail
                  refine TK.out.mono ?_
                  rintro _ w6 ⟨rfl, s6, k6⟩
                  have G6 := Lib.hid (GA.out.step s6 k6)
                  have cg := G6.out.cell
                  clear s6 k6 TK GA c1 c2
                  go_wp2_with (refine app_new rfl (.tmp 77) (.tmp 80) rfl (m := [tb, te]) rfl rfl G6.out.oa G6.out.bl.size rfl rfl (by have := LEN.out; simp; omega) ?_)
                  intro v' W' o1 o2 o3
                  obtain ⟨a7, n7, c7, e7⟩ := o1.form
                  subst e7
                  have C2 := G6.out.cell2 o2
                  have cg1 := C2.1
                  have cg2 := C2.2
                  have A := Lib.hid (G6.out.app o1 o2 o3)
                  clear o1 o2 o3 C2 cg
                  go_wp2_with fail
                  go_roundg (N2 - (j + 1))
                  case measure => have := G3.out; omega
                  case rel => exact ⟨j + 1, _, by omega, by omega, rfl, by go_num, by rw [SC.out]; exact A.out⟩
                · have g5 : (x.kind == 1) = false := by rw [beq_eq_false_iff_ne]; exact k1
                  by_cases k2 : x.kind = 2
                  · have g6 : (x.kind == 2) = true := by rw [k2]; rfl
                    have GV := Lib.hid (give_any GA.out.sp x.block HB.out)
                    have SS : gaS x l3 = ([(giveR 2 l3 x.block).1], (giveR 2 l3 x.block).2) := by unfold gaS; rw [if_neg k1, if_pos k2]
                    rw [SS] at SC
                    obtain ⟨te, hte⟩ : ∃ te, te = (giveR 2 l3 x.block).1 := ⟨_, rfl⟩
                    obtain ⟨l4, hl4⟩ : ∃ l4, l4 = (giveR 2 l3 x.block).2 := ⟨_, rfl⟩
                    rw [← hte, ← hl4] at GV SC
                    clear k1 k2 SS hte hl4
                    go_wp2_with fail
                    refine GV.out.mono ?_
                    rintro _ w6 ⟨rfl, s6, k6⟩
                    have G6 := Lib.hid (GA.out.step s6 k6)
                    have cg := G6.out.cell
                    clear s6 k6 GV GA c1 c2
                    go_wp2_with (refine app_new rfl (.tmp 95) (.tmp 97) rfl (m := [te]) rfl rfl G6.out.oa G6.out.bl.size rfl rfl (by have := LEN.out; simp; omega) ?_)
                    intro v' W' o1 o2 o3
                    obtain ⟨a7, n7, c7, e7⟩ := o1.form
                    subst e7
                    have C2 := G6.out.cell2 o2
                    have cg1 := C2.1
                    have cg2 := C2.2
                    have A := Lib.hid (G6.out.app o1 o2 o3)
                    clear o1 o2 o3 C2 cg
                    go_wp2_with fail
                    go_roundg (N2 - (j + 1))
                    case measure => have := G3.out; omega
                    case rel => exact ⟨j + 1, _, by omega, by omega, rfl, by go_num, by rw [SC.out]; exact A.out⟩
                  · have g6 : (x.kind == 2) = false := by rw [beq_eq_false_iff_ne]; exact k2
                    have SS : gaS x l3 = ([], l3) := by unfold gaS; rw [if_neg k1, if_neg k2]
                    rw [SS, List.append_nil] at SC
                    clear k1 k2 SS
                    go_wp2_with fail
                    go_roundg (N2 - (j + 1))
                    case measure => have := G3.out; omega
                    case rel => exact ⟨j + 1, _, by omega, by omega, rfl, by go_num, by rw [SC.out]; exact GA.out⟩
              · have GD3 : Hid ((decide ((j : Int) < (N2 : Int)) = false ∧ decide (j < N2) = false) ∨ (decide ((j : Int) < (N2 : Int)) = true ∧ decide (j < N2) = true ∧ decide ((j : Int) < 400) = false ∧ decide (j < 400) = false)) := Lib.hid (by
                  by_cases q : j < N2
                  · exact Or.inr ⟨decide_eq_true (by omega), decide_eq_true (by omega), decide_eq_false (by omega), decide_eq_false (by omega)⟩
                  · exact Or.inl ⟨decide_eq_false (by omega), decide_eq_false (by omega)⟩)
                have ET : t2.take j = t2.take 400 := by
                  by_cases q : j = 400
                  · rw [q]
                  · rw [List.take_of_length_le (by rw [← NN2.out]; omega), List.take_of_length_le (by rw [← NN2.out]; omega)]
                rw [ET] at GA LEN
                have SI3 := Lib.hid (gaR_since SN.out.1 (t2.take 400))
                have RW : R = (gaR (t2.take 400) l2).1 ++ [(freeN (gaR (t2.take 400) l2).2 : Int)] ++ those [1, 2] 2 (gaR (t2.take 400) l2).2 ++ those [3] 2 (gaR (t2.take 400) l2).2 := RR.out
                obtain ⟨La, hLa⟩ : ∃ La, La = (gaR (t2.take 400) l2).1 := ⟨_, rfl⟩
                obtain ⟨l3, hl3⟩ : ∃ l3, l3 = (gaR (t2.take 400) l2).2 := ⟨_, rfl⟩
                rw [← hLa, ← hl3] at GA RW
                rw [← hLa] at LEN
                rw [← hl3] at SI3
                obtain ⟨F, hF⟩ : ∃ F, F = freeN l3 := ⟨_, rfl⟩
                rw [← hF] at RW
                have RWH := Lib.hid RW
                have CALL : Hid (Calls Try.prog 18 #[.pointer (some ⟨d, 0, none⟩)] wr.drew fun e w' => e = .returned (.int .i64 F) ∧ Ga w w' d sb g l3 r ua uo La Lo) := Lib.hid (by
                  rw [hF]
                  refine (free_any GA.out.drew.sp).mono ?_
                  rintro e w' ⟨h1, rfl⟩
                  exact ⟨h1, GA.out.drew⟩)
                clear ET RW hLa hl3 hF hlt2
                have AX : Hid (∀ W : World, Ga w W d sb g l3 r ua uo La Lo → Ga w (W.alloc (.cells #[.int .i64 F] 3)) d sb g l3 r ua uo La Lo ∧ Ints (W.alloc (.cells #[.int .i64 F] 3)) (.slice (some ⟨W.heap.size, 0, none⟩) 1 1) [(F : Int)]) := Lib.hid (fun W h => ⟨h.below ((Below.refl _ _).alloc (Nat.le_refl _) _), new_ints W [(F : Int)] (by simp [maxLen])⟩)
                have cg := GA.out.cell
                have cgd := GA.out.drew.cell
                have hr0 : (0 : Int) ≤ (r : Int) := by omega
                rcases GD3.out with ⟨f1, f2⟩ | ⟨f1, f2, f3, f4⟩
                · as_aux_lemma =>
                  go_upto_region 23 with fail
                  go_cut [12] from 100 to 108 (fun s12 wx => s12 = .pointer (some ⟨g, 0, none⟩) ∧ ∃ ua', Ga w wx d sb g l3 r ua' uo (La ++ [(F : Int)]) Lo)
                  case first =>
                    refine wp_region_held_drew (S := fun _ : World => True) (by kernel_rfl) trivial (fun hHeld => ?_)
                    refine takeH (i := 0) (t := 100) (v := .int .i64 (r : Int)) rfl rfl (by kernel_rfl) (by kernel_rfl) (by kernel_rfl) (fun _ _ _ h => h) (Or.inl ⟨by rfl, fun w hSw => by first | rfl | go_simp⟩) hHeld ?_
                    simp only [Act.put, List.setIfInBounds_toArray, List.set_cons_zero, List.set_cons_succ]
                    refine takeH (i := 1) (t := 101) (v := .int .i64 (r : Int)) rfl rfl (by kernel_rfl) (by kernel_rfl) (by kernel_rfl) (fun _ _ _ h => h) (Or.inl ⟨by rfl, fun w hSw => by first | rfl | go_simp⟩) hHeld ?_
                    simp only [Act.put, List.setIfInBounds_toArray, List.set_cons_zero, List.set_cons_succ]
                    refine takeH (i := 2) (t := 102) (v := .pointer (some ⟨g, r, none⟩)) rfl rfl (by kernel_rfl) (by kernel_rfl) (by kernel_rfl) (fun _ _ _ h => h) (Or.inl ⟨by rfl, fun w hSw => by first | rfl | go_simp⟩) hHeld ?_
                    simp only [Act.put, List.setIfInBounds_toArray, List.set_cons_zero, List.set_cons_succ]
                    refine takeH (i := 4) (t := 104) (v := .pointer (some ⟨d, 0, none⟩)) rfl rfl (by kernel_rfl) (by kernel_rfl) (by kernel_rfl) (fun _ _ _ h => h) (Or.inl ⟨by rfl, fun w hSw => by first | rfl | go_simp⟩) hHeld ?_
                    simp only [Act.put, List.setIfInBounds_toArray, List.set_cons_zero, List.set_cons_succ]
                    refine wpAnyH_ready (rs := [3, 5]) (by kernel_rfl) (by simp) ?_
                    refine AllReadyH.cons rfl (fun K hK => ?_) (AllReadyH.cons rfl (fun K hK => ?_) (AllReadyH.nil))
                    · go_simp
                      refine hK.out _ _ trivial (fun hHeld => ?_)
                      clear hK K
                      refine wpAnyH_ready (rs := [5]) (by kernel_rfl) (by simp) ?_
                      refine AllReadyH.cons rfl (fun K hK => ?_) (AllReadyH.nil)
                      go_simp
                      go_wp2_with (go_at_call 18; refine CALL.out.mono ?_; rintro _ w5 ⟨rfl, hG5⟩)
                      have hc5 := hG5.cell
                      have hc6 := (AX.out _ hG5).1.cell
                      refine hK.out _ _ trivial (fun hHeld => ?_)
                      clear hK K
                      refine wpAnyH_ready (rs := [6]) (by kernel_rfl) (by simp) ?_
                      refine AllReadyH.cons rfl (fun K hK => ?_) (AllReadyH.nil)
                      go_simp
                      refine hK.out _ _ trivial (fun hHeld => ?_)
                      clear hK K
                      refine wpAnyH_ready (rs := [7]) (by kernel_rfl) (by simp) ?_
                      refine AllReadyH.cons rfl (fun K hK => ?_) (AllReadyH.nil)
                      refine step_app_ints (by rfl) (.tmp 103) (.tmp 106) (by rfl) (by rfl) (AX.out _ hG5).1.oa (AX.out _ hG5).1.bl.size (by rfl) (AX.out _ hG5).2 (by have := LEN.out; simp; omega) 107 (by rfl) ?_
                      intro a8 n8 c8' W2 hA
                      simp only [Act.put, List.setIfInBounds_toArray, List.set_cons_zero, List.set_cons_succ]
                      have hF1 := ((AX.out _ hG5).1.cell2 hA.2.1).1
                      have hF2 := ((AX.out _ hG5).1.cell2 hA.2.1).2
                      have hEnd := (AX.out _ hG5).1.app hA.1 hA.2.1 hA.2.2
                      clear hA
                      refine hK.out _ _ trivial (fun hHeld => ?_)
                      clear hK K
                      refine takeH (i := 8) (t := 108) (v := .pointer (some ⟨g, r, none⟩)) rfl rfl (by kernel_rfl) (by kernel_rfl) (by kernel_rfl) (fun _ _ _ h => h) (Or.inl ⟨by rfl, fun w hSw => by first | rfl | go_simp⟩) hHeld ?_
                      simp only [Act.put, List.setIfInBounds_toArray, List.set_cons_zero, List.set_cons_succ]
                      refine wpAnyH_ready (rs := [9]) (by kernel_rfl) (by simp) ?_
                      refine AllReadyH.cons rfl (fun K hK => ?_) (AllReadyH.nil)
                      go_simp
                      refine hK.out _ _ trivial (fun hHeld => ?_)
                      clear hK K
                      refine wpAnyH_done (by kernel_rfl) ?_ _
                      go_wp2_with fail
                      go_meet
                      exact ⟨rfl, _, hEnd⟩
                    · go_simp
                      go_wp2_with (go_at_call 18; refine CALL.out.mono ?_; rintro _ w5 ⟨rfl, hG5⟩)
                      have hc5 := hG5.cell
                      have hc6 := (AX.out _ hG5).1.cell
                      refine hK.out _ _ trivial (fun hHeld => ?_)
                      clear hK K
                      refine wpAnyH_ready (rs := [3, 6]) (by kernel_rfl) (by simp) ?_
                      refine AllReadyH.cons rfl (fun K hK => ?_) (AllReadyH.cons rfl (fun K hK => ?_) (AllReadyH.nil))
                      · go_simp
                        refine hK.out _ _ trivial (fun hHeld => ?_)
                        clear hK K
                        refine wpAnyH_ready (rs := [6]) (by kernel_rfl) (by simp) ?_
                        refine AllReadyH.cons rfl (fun K hK => ?_) (AllReadyH.nil)
                        go_simp
                        refine hK.out _ _ trivial (fun hHeld => ?_)
                        clear hK K
                        refine wpAnyH_ready (rs := [7]) (by kernel_rfl) (by simp) ?_
                        refine AllReadyH.cons rfl (fun K hK => ?_) (AllReadyH.nil)
                        refine step_app_ints (by rfl) (.tmp 103) (.tmp 106) (by rfl) (by rfl) (AX.out _ hG5).1.oa (AX.out _ hG5).1.bl.size (by rfl) (AX.out _ hG5).2 (by have := LEN.out; simp; omega) 107 (by rfl) ?_
                        intro a8 n8 c8' W2 hA
                        simp only [Act.put, List.setIfInBounds_toArray, List.set_cons_zero, List.set_cons_succ]
                        have hF1 := ((AX.out _ hG5).1.cell2 hA.2.1).1
                        have hF2 := ((AX.out _ hG5).1.cell2 hA.2.1).2
                        have hEnd := (AX.out _ hG5).1.app hA.1 hA.2.1 hA.2.2
                        clear hA
                        refine hK.out _ _ trivial (fun hHeld => ?_)
                        clear hK K
                        refine takeH (i := 8) (t := 108) (v := .pointer (some ⟨g, r, none⟩)) rfl rfl (by kernel_rfl) (by kernel_rfl) (by kernel_rfl) (fun _ _ _ h => h) (Or.inl ⟨by rfl, fun w hSw => by first | rfl | go_simp⟩) hHeld ?_
                        simp only [Act.put, List.setIfInBounds_toArray, List.set_cons_zero, List.set_cons_succ]
                        refine wpAnyH_ready (rs := [9]) (by kernel_rfl) (by simp) ?_
                        refine AllReadyH.cons rfl (fun K hK => ?_) (AllReadyH.nil)
                        go_simp
                        refine hK.out _ _ trivial (fun hHeld => ?_)
                        clear hK K
                        refine wpAnyH_done (by kernel_rfl) ?_ _
                        go_wp2_with fail
                        go_meet
                        exact ⟨rfl, _, hEnd⟩
                      · go_simp
                        refine hK.out _ _ trivial (fun hHeld => ?_)
                        clear hK K
                        refine wpAnyH_ready (rs := [3]) (by kernel_rfl) (by simp) ?_
                        refine AllReadyH.cons rfl (fun K hK => ?_) (AllReadyH.nil)
                        go_simp
                        refine hK.out _ _ trivial (fun hHeld => ?_)
                        clear hK K
                        refine wpAnyH_ready (rs := [7]) (by kernel_rfl) (by simp) ?_
                        refine AllReadyH.cons rfl (fun K hK => ?_) (AllReadyH.nil)
                        refine step_app_ints (by rfl) (.tmp 103) (.tmp 106) (by rfl) (by rfl) (AX.out _ hG5).1.oa (AX.out _ hG5).1.bl.size (by rfl) (AX.out _ hG5).2 (by have := LEN.out; simp; omega) 107 (by rfl) ?_
                        intro a8 n8 c8' W2 hA
                        simp only [Act.put, List.setIfInBounds_toArray, List.set_cons_zero, List.set_cons_succ]
                        have hF1 := ((AX.out _ hG5).1.cell2 hA.2.1).1
                        have hF2 := ((AX.out _ hG5).1.cell2 hA.2.1).2
                        have hEnd := (AX.out _ hG5).1.app hA.1 hA.2.1 hA.2.2
                        clear hA
                        refine hK.out _ _ trivial (fun hHeld => ?_)
                        clear hK K
                        refine takeH (i := 8) (t := 108) (v := .pointer (some ⟨g, r, none⟩)) rfl rfl (by kernel_rfl) (by kernel_rfl) (by kernel_rfl) (fun _ _ _ h => h) (Or.inl ⟨by rfl, fun w hSw => by first | rfl | go_simp⟩) hHeld ?_
                        simp only [Act.put, List.setIfInBounds_toArray, List.set_cons_zero, List.set_cons_succ]
                        refine wpAnyH_ready (rs := [9]) (by kernel_rfl) (by simp) ?_
                        refine AllReadyH.cons rfl (fun K hK => ?_) (AllReadyH.nil)
                        go_simp
                        refine hK.out _ _ trivial (fun hHeld => ?_)
                        clear hK K
                        refine wpAnyH_done (by kernel_rfl) ?_ _
                        go_wp2_with fail
                        go_meet
                        exact ⟨rfl, _, hEnd⟩
                  case rest =>
                    clear cg cgd CALL AX
                    obtain ⟨rfl, ua2, hG6⟩ := hcut
                    have GB := Lib.hid hG6
                    have cg := hG6.cell
                    have cgd := hG6.drew.cell
                    have CALL : Hid (Calls Try.prog 10 #[.pointer (some ⟨d, 0, none⟩)] wc.drew fun e w' => ∃ u, e = .returned u ∧ Ga w w' d sb g l3 r ua2 uo (La ++ [(F : Int)]) Lo ∧ OwnI w.heap.size w' u (those [1, 2] 2 l3)) := Lib.hid (by
                      refine (taken_any hG6.drew.sp).mono ?_
                      rintro e w' ⟨u, h1, h2, h3⟩
                      exact ⟨u, h1, hG6.drew.below h3, h2.mono hG6.drew.bl.size⟩)
                    have LT : Hid ((those [1, 2] 2 l3).length ≤ 64) := Lib.hid (by have := those_length [1, 2] 2 l3; rw [SI3.out.1, SN.out.2] at this; omega)
                    have LH : Hid ((those [3] 2 l3).length ≤ 64) := Lib.hid (by have := those_length [3] 2 l3; rw [SI3.out.1, SN.out.2] at this; omega)
                    clear hG6
                    go_upto_region 24 with fail
                    go_cut [12] from 109 to 116 (fun s12 wx => s12 = .pointer (some ⟨g, 0, none⟩) ∧ ∃ ua', Ga w wx d sb g l3 r ua' uo (La ++ [(F : Int)] ++ those [1, 2] 2 l3) Lo)
                    case first =>
                      refine wp_region_held_drew (S := fun _ : World => True) (by kernel_rfl) trivial (fun hHeld => ?_)
                      refine takeH (i := 0) (t := 109) (v := .int .i64 (r : Int)) rfl rfl (by kernel_rfl) (by kernel_rfl) (by kernel_rfl) (fun _ _ _ h => h) (Or.inl ⟨by rfl, fun w hSw => by first | rfl | go_simp⟩) hHeld ?_
                      simp only [Act.put, List.setIfInBounds_toArray, List.set_cons_zero, List.set_cons_succ]
                      refine takeH (i := 1) (t := 110) (v := .int .i64 (r : Int)) rfl rfl (by kernel_rfl) (by kernel_rfl) (by kernel_rfl) (fun _ _ _ h => h) (Or.inl ⟨by rfl, fun w hSw => by first | rfl | go_simp⟩) hHeld ?_
                      simp only [Act.put, List.setIfInBounds_toArray, List.set_cons_zero, List.set_cons_succ]
                      refine takeH (i := 2) (t := 111) (v := .pointer (some ⟨g, r, none⟩)) rfl rfl (by kernel_rfl) (by kernel_rfl) (by kernel_rfl) (fun _ _ _ h => h) (Or.inl ⟨by rfl, fun w hSw => by first | rfl | go_simp⟩) hHeld ?_
                      simp only [Act.put, List.setIfInBounds_toArray, List.set_cons_zero, List.set_cons_succ]
                      refine takeH (i := 4) (t := 113) (v := .pointer (some ⟨d, 0, none⟩)) rfl rfl (by kernel_rfl) (by kernel_rfl) (by kernel_rfl) (fun _ _ _ h => h) (Or.inl ⟨by rfl, fun w hSw => by first | rfl | go_simp⟩) hHeld ?_
                      simp only [Act.put, List.setIfInBounds_toArray, List.set_cons_zero, List.set_cons_succ]
                      refine wpAnyH_ready (rs := [3, 5]) (by kernel_rfl) (by simp) ?_
                      refine AllReadyH.cons rfl (fun K hK => ?_) (AllReadyH.cons rfl (fun K hK => ?_) (AllReadyH.nil))
                      · go_simp
                        refine hK.out _ _ trivial (fun hHeld => ?_)
                        clear hK K
                        refine wpAnyH_ready (rs := [5]) (by kernel_rfl) (by simp) ?_
                        refine AllReadyH.cons rfl (fun K hK => ?_) (AllReadyH.nil)
                        go_simp
                        go_wp2_with (go_at_call 10; refine CALL.out.mono ?_; rintro _ w5 ⟨u5, rfl, hG5, hO5⟩)
                        have hc5 := hG5.cell
                        refine hK.out _ _ trivial (fun hHeld => ?_)
                        clear hK K
                        refine wpAnyH_ready (rs := [6]) (by kernel_rfl) (by simp) ?_
                        refine AllReadyH.cons rfl (fun K hK => ?_) (AllReadyH.nil)
                        refine step_app_ints (by rfl) (.tmp 112) (.tmp 114) (by rfl) (by rfl) hG5.oa hG5.bl.size (by rfl) hO5.ints (by have := LEN.out; have := LT.out; simp; omega) 115 (by rfl) ?_
                        intro a8 n8 c8' W2 hA
                        simp only [Act.put, List.setIfInBounds_toArray, List.set_cons_zero, List.set_cons_succ]
                        have hF1 := (hG5.cell2 hA.2.1).1
                        have hF2 := (hG5.cell2 hA.2.1).2
                        have hEnd := hG5.app hA.1 hA.2.1 hA.2.2
                        clear hA
                        refine hK.out _ _ trivial (fun hHeld => ?_)
                        clear hK K
                        refine takeH (i := 7) (t := 116) (v := .pointer (some ⟨g, r, none⟩)) rfl rfl (by kernel_rfl) (by kernel_rfl) (by kernel_rfl) (fun _ _ _ h => h) (Or.inl ⟨by rfl, fun w hSw => by first | rfl | go_simp⟩) hHeld ?_
                        simp only [Act.put, List.setIfInBounds_toArray, List.set_cons_zero, List.set_cons_succ]
                        refine wpAnyH_ready (rs := [8]) (by kernel_rfl) (by simp) ?_
                        refine AllReadyH.cons rfl (fun K hK => ?_) (AllReadyH.nil)
                        go_simp
                        refine hK.out _ _ trivial (fun hHeld => ?_)
                        clear hK K
                        refine wpAnyH_done (by kernel_rfl) ?_ _
                        go_wp2_with fail
                        go_meet
                        exact ⟨rfl, _, hEnd⟩
                      · go_simp
                        go_wp2_with (go_at_call 10; refine CALL.out.mono ?_; rintro _ w5 ⟨u5, rfl, hG5, hO5⟩)
                        have hc5 := hG5.cell
                        refine hK.out _ _ trivial (fun hHeld => ?_)
                        clear hK K
                        refine wpAnyH_ready (rs := [3]) (by kernel_rfl) (by simp) ?_
                        refine AllReadyH.cons rfl (fun K hK => ?_) (AllReadyH.nil)
                        go_simp
                        refine hK.out _ _ trivial (fun hHeld => ?_)
                        clear hK K
                        refine wpAnyH_ready (rs := [6]) (by kernel_rfl) (by simp) ?_
                        refine AllReadyH.cons rfl (fun K hK => ?_) (AllReadyH.nil)
                        refine step_app_ints (by rfl) (.tmp 112) (.tmp 114) (by rfl) (by rfl) hG5.oa hG5.bl.size (by rfl) hO5.ints (by have := LEN.out; have := LT.out; simp; omega) 115 (by rfl) ?_
                        intro a8 n8 c8' W2 hA
                        simp only [Act.put, List.setIfInBounds_toArray, List.set_cons_zero, List.set_cons_succ]
                        have hF1 := (hG5.cell2 hA.2.1).1
                        have hF2 := (hG5.cell2 hA.2.1).2
                        have hEnd := hG5.app hA.1 hA.2.1 hA.2.2
                        clear hA
                        refine hK.out _ _ trivial (fun hHeld => ?_)
                        clear hK K
                        refine takeH (i := 7) (t := 116) (v := .pointer (some ⟨g, r, none⟩)) rfl rfl (by kernel_rfl) (by kernel_rfl) (by kernel_rfl) (fun _ _ _ h => h) (Or.inl ⟨by rfl, fun w hSw => by first | rfl | go_simp⟩) hHeld ?_
                        simp only [Act.put, List.setIfInBounds_toArray, List.set_cons_zero, List.set_cons_succ]
                        refine wpAnyH_ready (rs := [8]) (by kernel_rfl) (by simp) ?_
                        refine AllReadyH.cons rfl (fun K hK => ?_) (AllReadyH.nil)
                        go_simp
                        refine hK.out _ _ trivial (fun hHeld => ?_)
                        clear hK K
                        refine wpAnyH_done (by kernel_rfl) ?_ _
                        go_wp2_with fail
                        go_meet
                        exact ⟨rfl, _, hEnd⟩
                    case rest =>
                      clear cg cgd CALL GB
                      obtain ⟨rfl, ua3, hG6⟩ := hcut
                      have cg := hG6.cell
                      have cgd := hG6.drew.cell
                      have CALL : Hid (Calls Try.prog 14 #[.pointer (some ⟨d, 0, none⟩)] wc.drew fun e w' => ∃ u, e = .returned u ∧ Ga w w' d sb g l3 r ua3 uo (La ++ [(F : Int)] ++ those [1, 2] 2 l3) Lo ∧ OwnI w.heap.size w' u (those [3] 2 l3)) := Lib.hid (by
                        refine (held_any hG6.drew.sp).mono ?_
                        rintro e w' ⟨u, h1, h2, h3⟩
                        exact ⟨u, h1, hG6.drew.below h3, h2.mono hG6.drew.bl.size⟩)
                      clear hG6
                      go_upto_region 25 with fail
                      go_cut [12] from 117 to 124 (fun s12 wx => s12 = .pointer (some ⟨g, 0, none⟩) ∧ ∃ ua', Ga w wx d sb g l3 r ua' uo (La ++ [(F : Int)] ++ those [1, 2] 2 l3 ++ those [3] 2 l3) Lo)
                      case first =>
                        refine wp_region_held_drew (S := fun _ : World => True) (by kernel_rfl) trivial (fun hHeld => ?_)
                        refine takeH (i := 0) (t := 117) (v := .int .i64 (r : Int)) rfl rfl (by kernel_rfl) (by kernel_rfl) (by kernel_rfl) (fun _ _ _ h => h) (Or.inl ⟨by rfl, fun w hSw => by first | rfl | go_simp⟩) hHeld ?_
                        simp only [Act.put, List.setIfInBounds_toArray, List.set_cons_zero, List.set_cons_succ]
                        refine takeH (i := 1) (t := 118) (v := .int .i64 (r : Int)) rfl rfl (by kernel_rfl) (by kernel_rfl) (by kernel_rfl) (fun _ _ _ h => h) (Or.inl ⟨by rfl, fun w hSw => by first | rfl | go_simp⟩) hHeld ?_
                        simp only [Act.put, List.setIfInBounds_toArray, List.set_cons_zero, List.set_cons_succ]
                        refine takeH (i := 2) (t := 119) (v := .pointer (some ⟨g, r, none⟩)) rfl rfl (by kernel_rfl) (by kernel_rfl) (by kernel_rfl) (fun _ _ _ h => h) (Or.inl ⟨by rfl, fun w hSw => by first | rfl | go_simp⟩) hHeld ?_
                        simp only [Act.put, List.setIfInBounds_toArray, List.set_cons_zero, List.set_cons_succ]
                        refine takeH (i := 4) (t := 121) (v := .pointer (some ⟨d, 0, none⟩)) rfl rfl (by kernel_rfl) (by kernel_rfl) (by kernel_rfl) (fun _ _ _ h => h) (Or.inl ⟨by rfl, fun w hSw => by first | rfl | go_simp⟩) hHeld ?_
                        simp only [Act.put, List.setIfInBounds_toArray, List.set_cons_zero, List.set_cons_succ]
                        refine wpAnyH_ready (rs := [3, 5]) (by kernel_rfl) (by simp) ?_
                        refine AllReadyH.cons rfl (fun K hK => ?_) (AllReadyH.cons rfl (fun K hK => ?_) (AllReadyH.nil))
                        · go_simp
                          refine hK.out _ _ trivial (fun hHeld => ?_)
                          clear hK K
                          refine wpAnyH_ready (rs := [5]) (by kernel_rfl) (by simp) ?_
                          refine AllReadyH.cons rfl (fun K hK => ?_) (AllReadyH.nil)
                          go_simp
                          go_wp2_with (go_at_call 14; refine CALL.out.mono ?_; rintro _ w5 ⟨u5, rfl, hG5, hO5⟩)
                          have hc5 := hG5.cell
                          refine hK.out _ _ trivial (fun hHeld => ?_)
                          clear hK K
                          refine wpAnyH_ready (rs := [6]) (by kernel_rfl) (by simp) ?_
                          refine AllReadyH.cons rfl (fun K hK => ?_) (AllReadyH.nil)
                          refine step_app_ints (by rfl) (.tmp 120) (.tmp 122) (by rfl) (by rfl) hG5.oa hG5.bl.size (by rfl) hO5.ints (by have := LEN.out; have := LT.out; have := LH.out; simp; omega) 123 (by rfl) ?_
                          intro a8 n8 c8' W2 hA
                          simp only [Act.put, List.setIfInBounds_toArray, List.set_cons_zero, List.set_cons_succ]
                          have hF1 := (hG5.cell2 hA.2.1).1
                          have hF2 := (hG5.cell2 hA.2.1).2
                          have hEnd := hG5.app hA.1 hA.2.1 hA.2.2
                          clear hA
                          refine hK.out _ _ trivial (fun hHeld => ?_)
                          clear hK K
                          refine takeH (i := 7) (t := 124) (v := .pointer (some ⟨g, r, none⟩)) rfl rfl (by kernel_rfl) (by kernel_rfl) (by kernel_rfl) (fun _ _ _ h => h) (Or.inl ⟨by rfl, fun w hSw => by first | rfl | go_simp⟩) hHeld ?_
                          simp only [Act.put, List.setIfInBounds_toArray, List.set_cons_zero, List.set_cons_succ]
                          refine wpAnyH_ready (rs := [8]) (by kernel_rfl) (by simp) ?_
                          refine AllReadyH.cons rfl (fun K hK => ?_) (AllReadyH.nil)
                          go_simp
                          refine hK.out _ _ trivial (fun hHeld => ?_)
                          clear hK K
                          refine wpAnyH_done (by kernel_rfl) ?_ _
                          go_wp2_with fail
                          go_meet
                          exact ⟨rfl, _, hEnd⟩
                        · go_simp
                          go_wp2_with (go_at_call 14; refine CALL.out.mono ?_; rintro _ w5 ⟨u5, rfl, hG5, hO5⟩)
                          have hc5 := hG5.cell
                          refine hK.out _ _ trivial (fun hHeld => ?_)
                          clear hK K
                          refine wpAnyH_ready (rs := [3]) (by kernel_rfl) (by simp) ?_
                          refine AllReadyH.cons rfl (fun K hK => ?_) (AllReadyH.nil)
                          go_simp
                          refine hK.out _ _ trivial (fun hHeld => ?_)
                          clear hK K
                          refine wpAnyH_ready (rs := [6]) (by kernel_rfl) (by simp) ?_
                          refine AllReadyH.cons rfl (fun K hK => ?_) (AllReadyH.nil)
                          refine step_app_ints (by rfl) (.tmp 120) (.tmp 122) (by rfl) (by rfl) hG5.oa hG5.bl.size (by rfl) hO5.ints (by have := LEN.out; have := LT.out; have := LH.out; simp; omega) 123 (by rfl) ?_
                          intro a8 n8 c8' W2 hA
                          simp only [Act.put, List.setIfInBounds_toArray, List.set_cons_zero, List.set_cons_succ]
                          have hF1 := (hG5.cell2 hA.2.1).1
                          have hF2 := (hG5.cell2 hA.2.1).2
                          have hEnd := hG5.app hA.1 hA.2.1 hA.2.2
                          clear hA
                          refine hK.out _ _ trivial (fun hHeld => ?_)
                          clear hK K
                          refine takeH (i := 7) (t := 124) (v := .pointer (some ⟨g, r, none⟩)) rfl rfl (by kernel_rfl) (by kernel_rfl) (by kernel_rfl) (fun _ _ _ h => h) (Or.inl ⟨by rfl, fun w hSw => by first | rfl | go_simp⟩) hHeld ?_
                          simp only [Act.put, List.setIfInBounds_toArray, List.set_cons_zero, List.set_cons_succ]
                          refine wpAnyH_ready (rs := [8]) (by kernel_rfl) (by simp) ?_
                          refine AllReadyH.cons rfl (fun K hK => ?_) (AllReadyH.nil)
                          go_simp
                          refine hK.out _ _ trivial (fun hHeld => ?_)
                          clear hK K
                          refine wpAnyH_done (by kernel_rfl) ?_ _
                          go_wp2_with fail
                          go_meet
                          exact ⟨rfl, _, hEnd⟩
                      case rest =>
                        clear cg cgd CALL
                        obtain ⟨rfl, ua4, hG6⟩ := hcut
                        rw [← RWH.out] at hG6
                        have GB := Lib.hid hG6
                        clear hG6
                        have BK := Lib.hid (back_any GB.out.sp)
                        rw [since_back SI3.out] at BK
                        go_wp2_with fail
                        refine BK.out.mono ?_
                        rintro _ w6 ⟨rfl, s6, k6⟩
                        have G6 := Lib.hid (FIN.out w6 ua4 (GB.out.step s6 k6))
                        clear s6 k6 BK
                        go_wp2_with fail
                        go_roundg (2 - (r + 1))
                        case measure => have := G2.out; omega
                        case rel =>
                          obtain ⟨u0, u1, L0, L1, h1, h2, h3, h4, h5⟩ := G6.out
                          exact ⟨r + 1, u0, u1, L0, L1, by omega, rfl, by go_num, h1, h2, h3, h4, h5⟩
                · as_aux_lemma =>
                  go_upto_region 23 with fail
                  go_cut [12] from 100 to 108 (fun s12 wx => s12 = .pointer (some ⟨g, 0, none⟩) ∧ ∃ ua', Ga w wx d sb g l3 r ua' uo (La ++ [(F : Int)]) Lo)
                  case first =>
                    refine wp_region_held_drew (S := fun _ : World => True) (by kernel_rfl) trivial (fun hHeld => ?_)
                    refine takeH (i := 0) (t := 100) (v := .int .i64 (r : Int)) rfl rfl (by kernel_rfl) (by kernel_rfl) (by kernel_rfl) (fun _ _ _ h => h) (Or.inl ⟨by rfl, fun w hSw => by first | rfl | go_simp⟩) hHeld ?_
                    simp only [Act.put, List.setIfInBounds_toArray, List.set_cons_zero, List.set_cons_succ]
                    refine takeH (i := 1) (t := 101) (v := .int .i64 (r : Int)) rfl rfl (by kernel_rfl) (by kernel_rfl) (by kernel_rfl) (fun _ _ _ h => h) (Or.inl ⟨by rfl, fun w hSw => by first | rfl | go_simp⟩) hHeld ?_
                    simp only [Act.put, List.setIfInBounds_toArray, List.set_cons_zero, List.set_cons_succ]
                    refine takeH (i := 2) (t := 102) (v := .pointer (some ⟨g, r, none⟩)) rfl rfl (by kernel_rfl) (by kernel_rfl) (by kernel_rfl) (fun _ _ _ h => h) (Or.inl ⟨by rfl, fun w hSw => by first | rfl | go_simp⟩) hHeld ?_
                    simp only [Act.put, List.setIfInBounds_toArray, List.set_cons_zero, List.set_cons_succ]
                    refine takeH (i := 4) (t := 104) (v := .pointer (some ⟨d, 0, none⟩)) rfl rfl (by kernel_rfl) (by kernel_rfl) (by kernel_rfl) (fun _ _ _ h => h) (Or.inl ⟨by rfl, fun w hSw => by first | rfl | go_simp⟩) hHeld ?_
                    simp only [Act.put, List.setIfInBounds_toArray, List.set_cons_zero, List.set_cons_succ]
                    refine wpAnyH_ready (rs := [3, 5]) (by kernel_rfl) (by simp) ?_
                    refine AllReadyH.cons rfl (fun K hK => ?_) (AllReadyH.cons rfl (fun K hK => ?_) (AllReadyH.nil))
                    · go_simp
                      refine hK.out _ _ trivial (fun hHeld => ?_)
                      clear hK K
                      refine wpAnyH_ready (rs := [5]) (by kernel_rfl) (by simp) ?_
                      refine AllReadyH.cons rfl (fun K hK => ?_) (AllReadyH.nil)
                      go_simp
                      go_wp2_with (go_at_call 18; refine CALL.out.mono ?_; rintro _ w5 ⟨rfl, hG5⟩)
                      have hc5 := hG5.cell
                      have hc6 := (AX.out _ hG5).1.cell
                      refine hK.out _ _ trivial (fun hHeld => ?_)
                      clear hK K
                      refine wpAnyH_ready (rs := [6]) (by kernel_rfl) (by simp) ?_
                      refine AllReadyH.cons rfl (fun K hK => ?_) (AllReadyH.nil)
                      go_simp
                      refine hK.out _ _ trivial (fun hHeld => ?_)
                      clear hK K
                      refine wpAnyH_ready (rs := [7]) (by kernel_rfl) (by simp) ?_
                      refine AllReadyH.cons rfl (fun K hK => ?_) (AllReadyH.nil)
                      refine step_app_ints (by rfl) (.tmp 103) (.tmp 106) (by rfl) (by rfl) (AX.out _ hG5).1.oa (AX.out _ hG5).1.bl.size (by rfl) (AX.out _ hG5).2 (by have := LEN.out; simp; omega) 107 (by rfl) ?_
                      intro a8 n8 c8' W2 hA
                      simp only [Act.put, List.setIfInBounds_toArray, List.set_cons_zero, List.set_cons_succ]
                      have hF1 := ((AX.out _ hG5).1.cell2 hA.2.1).1
                      have hF2 := ((AX.out _ hG5).1.cell2 hA.2.1).2
                      have hEnd := (AX.out _ hG5).1.app hA.1 hA.2.1 hA.2.2
                      clear hA
                      refine hK.out _ _ trivial (fun hHeld => ?_)
                      clear hK K
                      refine takeH (i := 8) (t := 108) (v := .pointer (some ⟨g, r, none⟩)) rfl rfl (by kernel_rfl) (by kernel_rfl) (by kernel_rfl) (fun _ _ _ h => h) (Or.inl ⟨by rfl, fun w hSw => by first | rfl | go_simp⟩) hHeld ?_
                      simp only [Act.put, List.setIfInBounds_toArray, List.set_cons_zero, List.set_cons_succ]
                      refine wpAnyH_ready (rs := [9]) (by kernel_rfl) (by simp) ?_
                      refine AllReadyH.cons rfl (fun K hK => ?_) (AllReadyH.nil)
                      go_simp
                      refine hK.out _ _ trivial (fun hHeld => ?_)
                      clear hK K
                      refine wpAnyH_done (by kernel_rfl) ?_ _
                      go_wp2_with fail
                      go_meet
                      exact ⟨rfl, _, hEnd⟩
                    · go_simp
                      go_wp2_with (go_at_call 18; refine CALL.out.mono ?_; rintro _ w5 ⟨rfl, hG5⟩)
                      have hc5 := hG5.cell
                      have hc6 := (AX.out _ hG5).1.cell
                      refine hK.out _ _ trivial (fun hHeld => ?_)
                      clear hK K
                      refine wpAnyH_ready (rs := [3, 6]) (by kernel_rfl) (by simp) ?_
                      refine AllReadyH.cons rfl (fun K hK => ?_) (AllReadyH.cons rfl (fun K hK => ?_) (AllReadyH.nil))
                      · go_simp
                        refine hK.out _ _ trivial (fun hHeld => ?_)
                        clear hK K
                        refine wpAnyH_ready (rs := [6]) (by kernel_rfl) (by simp) ?_
                        refine AllReadyH.cons rfl (fun K hK => ?_) (AllReadyH.nil)
                        go_simp
                        refine hK.out _ _ trivial (fun hHeld => ?_)
                        clear hK K
                        refine wpAnyH_ready (rs := [7]) (by kernel_rfl) (by simp) ?_
                        refine AllReadyH.cons rfl (fun K hK => ?_) (AllReadyH.nil)
                        refine step_app_ints (by rfl) (.tmp 103) (.tmp 106) (by rfl) (by rfl) (AX.out _ hG5).1.oa (AX.out _ hG5).1.bl.size (by rfl) (AX.out _ hG5).2 (by have := LEN.out; simp; omega) 107 (by rfl) ?_
                        intro a8 n8 c8' W2 hA
                        simp only [Act.put, List.setIfInBounds_toArray, List.set_cons_zero, List.set_cons_succ]
                        have hF1 := ((AX.out _ hG5).1.cell2 hA.2.1).1
                        have hF2 := ((AX.out _ hG5).1.cell2 hA.2.1).2
                        have hEnd := (AX.out _ hG5).1.app hA.1 hA.2.1 hA.2.2
                        clear hA
                        refine hK.out _ _ trivial (fun hHeld => ?_)
                        clear hK K
                        refine takeH (i := 8) (t := 108) (v := .pointer (some ⟨g, r, none⟩)) rfl rfl (by kernel_rfl) (by kernel_rfl) (by kernel_rfl) (fun _ _ _ h => h) (Or.inl ⟨by rfl, fun w hSw => by first | rfl | go_simp⟩) hHeld ?_
                        simp only [Act.put, List.setIfInBounds_toArray, List.set_cons_zero, List.set_cons_succ]
                        refine wpAnyH_ready (rs := [9]) (by kernel_rfl) (by simp) ?_
                        refine AllReadyH.cons rfl (fun K hK => ?_) (AllReadyH.nil)
                        go_simp
                        refine hK.out _ _ trivial (fun hHeld => ?_)
                        clear hK K
                        refine wpAnyH_done (by kernel_rfl) ?_ _
                        go_wp2_with fail
                        go_meet
                        exact ⟨rfl, _, hEnd⟩
                      · go_simp
                        refine hK.out _ _ trivial (fun hHeld => ?_)
                        clear hK K
                        refine wpAnyH_ready (rs := [3]) (by kernel_rfl) (by simp) ?_
                        refine AllReadyH.cons rfl (fun K hK => ?_) (AllReadyH.nil)
                        go_simp
                        refine hK.out _ _ trivial (fun hHeld => ?_)
                        clear hK K
                        refine wpAnyH_ready (rs := [7]) (by kernel_rfl) (by simp) ?_
                        refine AllReadyH.cons rfl (fun K hK => ?_) (AllReadyH.nil)
                        refine step_app_ints (by rfl) (.tmp 103) (.tmp 106) (by rfl) (by rfl) (AX.out _ hG5).1.oa (AX.out _ hG5).1.bl.size (by rfl) (AX.out _ hG5).2 (by have := LEN.out; simp; omega) 107 (by rfl) ?_
                        intro a8 n8 c8' W2 hA
                        simp only [Act.put, List.setIfInBounds_toArray, List.set_cons_zero, List.set_cons_succ]
                        have hF1 := ((AX.out _ hG5).1.cell2 hA.2.1).1
                        have hF2 := ((AX.out _ hG5).1.cell2 hA.2.1).2
                        have hEnd := (AX.out _ hG5).1.app hA.1 hA.2.1 hA.2.2
                        clear hA
                        refine hK.out _ _ trivial (fun hHeld => ?_)
                        clear hK K
                        refine takeH (i := 8) (t := 108) (v := .pointer (some ⟨g, r, none⟩)) rfl rfl (by kernel_rfl) (by kernel_rfl) (by kernel_rfl) (fun _ _ _ h => h) (Or.inl ⟨by rfl, fun w hSw => by first | rfl | go_simp⟩) hHeld ?_
                        simp only [Act.put, List.setIfInBounds_toArray, List.set_cons_zero, List.set_cons_succ]
                        refine wpAnyH_ready (rs := [9]) (by kernel_rfl) (by simp) ?_
                        refine AllReadyH.cons rfl (fun K hK => ?_) (AllReadyH.nil)
                        go_simp
                        refine hK.out _ _ trivial (fun hHeld => ?_)
                        clear hK K
                        refine wpAnyH_done (by kernel_rfl) ?_ _
                        go_wp2_with fail
                        go_meet
                        exact ⟨rfl, _, hEnd⟩
                  case rest =>
                    clear cg cgd CALL AX
                    obtain ⟨rfl, ua2, hG6⟩ := hcut
                    have GB := Lib.hid hG6
                    have cg := hG6.cell
                    have cgd := hG6.drew.cell
                    have CALL : Hid (Calls Try.prog 10 #[.pointer (some ⟨d, 0, none⟩)] wc.drew fun e w' => ∃ u, e = .returned u ∧ Ga w w' d sb g l3 r ua2 uo (La ++ [(F : Int)]) Lo ∧ OwnI w.heap.size w' u (those [1, 2] 2 l3)) := Lib.hid (by
                      refine (taken_any hG6.drew.sp).mono ?_
                      rintro e w' ⟨u, h1, h2, h3⟩
                      exact ⟨u, h1, hG6.drew.below h3, h2.mono hG6.drew.bl.size⟩)
                    have LT : Hid ((those [1, 2] 2 l3).length ≤ 64) := Lib.hid (by have := those_length [1, 2] 2 l3; rw [SI3.out.1, SN.out.2] at this; omega)
                    have LH : Hid ((those [3] 2 l3).length ≤ 64) := Lib.hid (by have := those_length [3] 2 l3; rw [SI3.out.1, SN.out.2] at this; omega)
                    clear hG6
                    go_upto_region 24 with fail
                    go_cut [12] from 109 to 116 (fun s12 wx => s12 = .pointer (some ⟨g, 0, none⟩) ∧ ∃ ua', Ga w wx d sb g l3 r ua' uo (La ++ [(F : Int)] ++ those [1, 2] 2 l3) Lo)
                    case first =>
                      refine wp_region_held_drew (S := fun _ : World => True) (by kernel_rfl) trivial (fun hHeld => ?_)
                      refine takeH (i := 0) (t := 109) (v := .int .i64 (r : Int)) rfl rfl (by kernel_rfl) (by kernel_rfl) (by kernel_rfl) (fun _ _ _ h => h) (Or.inl ⟨by rfl, fun w hSw => by first | rfl | go_simp⟩) hHeld ?_
                      simp only [Act.put, List.setIfInBounds_toArray, List.set_cons_zero, List.set_cons_succ]
                      refine takeH (i := 1) (t := 110) (v := .int .i64 (r : Int)) rfl rfl (by kernel_rfl) (by kernel_rfl) (by kernel_rfl) (fun _ _ _ h => h) (Or.inl ⟨by rfl, fun w hSw => by first | rfl | go_simp⟩) hHeld ?_
                      simp only [Act.put, List.setIfInBounds_toArray, List.set_cons_zero, List.set_cons_succ]
                      refine takeH (i := 2) (t := 111) (v := .pointer (some ⟨g, r, none⟩)) rfl rfl (by kernel_rfl) (by kernel_rfl) (by kernel_rfl) (fun _ _ _ h => h) (Or.inl ⟨by rfl, fun w hSw => by first | rfl | go_simp⟩) hHeld ?_
                      simp only [Act.put, List.setIfInBounds_toArray, List.set_cons_zero, List.set_cons_succ]
                      refine takeH (i := 4) (t := 113) (v := .pointer (some ⟨d, 0, none⟩)) rfl rfl (by kernel_rfl) (by kernel_rfl) (by kernel_rfl) (fun _ _ _ h => h) (Or.inl ⟨by rfl, fun w hSw => by first | rfl | go_simp⟩) hHeld ?_
                      simp only [Act.put, List.setIfInBounds_toArray, List.set_cons_zero, List.set_cons_succ]
                      refine wpAnyH_ready (rs := [3, 5]) (by kernel_rfl) (by simp) ?_
                      refine AllReadyH.cons rfl (fun K hK => ?_) (AllReadyH.cons rfl (fun K hK => ?_) (AllReadyH.nil))
                      · go_simp
                        refine hK.out _ _ trivial (fun hHeld => ?_)
                        clear hK K
                        refine wpAnyH_ready (rs := [5]) (by kernel_rfl) (by simp) ?_
                        refine AllReadyH.cons rfl (fun K hK => ?_) (AllReadyH.nil)
                        go_simp
                        go_wp2_with (go_at_call 10; refine CALL.out.mono ?_; rintro _ w5 ⟨u5, rfl, hG5, hO5⟩)
                        have hc5 := hG5.cell
                        refine hK.out _ _ trivial (fun hHeld => ?_)
                        clear hK K
                        refine wpAnyH_ready (rs := [6]) (by kernel_rfl) (by simp) ?_
                        refine AllReadyH.cons rfl (fun K hK => ?_) (AllReadyH.nil)
                        refine step_app_ints (by rfl) (.tmp 112) (.tmp 114) (by rfl) (by rfl) hG5.oa hG5.bl.size (by rfl) hO5.ints (by have := LEN.out; have := LT.out; simp; omega) 115 (by rfl) ?_
                        intro a8 n8 c8' W2 hA
                        simp only [Act.put, List.setIfInBounds_toArray, List.set_cons_zero, List.set_cons_succ]
                        have hF1 := (hG5.cell2 hA.2.1).1
                        have hF2 := (hG5.cell2 hA.2.1).2
                        have hEnd := hG5.app hA.1 hA.2.1 hA.2.2
                        clear hA
                        refine hK.out _ _ trivial (fun hHeld => ?_)
                        clear hK K
                        refine takeH (i := 7) (t := 116) (v := .pointer (some ⟨g, r, none⟩)) rfl rfl (by kernel_rfl) (by kernel_rfl) (by kernel_rfl) (fun _ _ _ h => h) (Or.inl ⟨by rfl, fun w hSw => by first | rfl | go_simp⟩) hHeld ?_
                        simp only [Act.put, List.setIfInBounds_toArray, List.set_cons_zero, List.set_cons_succ]
                        refine wpAnyH_ready (rs := [8]) (by kernel_rfl) (by simp) ?_
                        refine AllReadyH.cons rfl (fun K hK => ?_) (AllReadyH.nil)
                        go_simp
                        refine hK.out _ _ trivial (fun hHeld => ?_)
                        clear hK K
                        refine wpAnyH_done (by kernel_rfl) ?_ _
                        go_wp2_with fail
                        go_meet
                        exact ⟨rfl, _, hEnd⟩
                      · go_simp
                        go_wp2_with (go_at_call 10; refine CALL.out.mono ?_; rintro _ w5 ⟨u5, rfl, hG5, hO5⟩)
                        have hc5 := hG5.cell
                        refine hK.out _ _ trivial (fun hHeld => ?_)
                        clear hK K
                        refine wpAnyH_ready (rs := [3]) (by kernel_rfl) (by simp) ?_
                        refine AllReadyH.cons rfl (fun K hK => ?_) (AllReadyH.nil)
                        go_simp
                        refine hK.out _ _ trivial (fun hHeld => ?_)
                        clear hK K
                        refine wpAnyH_ready (rs := [6]) (by kernel_rfl) (by simp) ?_
                        refine AllReadyH.cons rfl (fun K hK => ?_) (AllReadyH.nil)
                        refine step_app_ints (by rfl) (.tmp 112) (.tmp 114) (by rfl) (by rfl) hG5.oa hG5.bl.size (by rfl) hO5.ints (by have := LEN.out; have := LT.out; simp; omega) 115 (by rfl) ?_
                        intro a8 n8 c8' W2 hA
                        simp only [Act.put, List.setIfInBounds_toArray, List.set_cons_zero, List.set_cons_succ]
                        have hF1 := (hG5.cell2 hA.2.1).1
                        have hF2 := (hG5.cell2 hA.2.1).2
                        have hEnd := hG5.app hA.1 hA.2.1 hA.2.2
                        clear hA
                        refine hK.out _ _ trivial (fun hHeld => ?_)
                        clear hK K
                        refine takeH (i := 7) (t := 116) (v := .pointer (some ⟨g, r, none⟩)) rfl rfl (by kernel_rfl) (by kernel_rfl) (by kernel_rfl) (fun _ _ _ h => h) (Or.inl ⟨by rfl, fun w hSw => by first | rfl | go_simp⟩) hHeld ?_
                        simp only [Act.put, List.setIfInBounds_toArray, List.set_cons_zero, List.set_cons_succ]
                        refine wpAnyH_ready (rs := [8]) (by kernel_rfl) (by simp) ?_
                        refine AllReadyH.cons rfl (fun K hK => ?_) (AllReadyH.nil)
                        go_simp
                        refine hK.out _ _ trivial (fun hHeld => ?_)
                        clear hK K
                        refine wpAnyH_done (by kernel_rfl) ?_ _
                        go_wp2_with fail
                        go_meet
                        exact ⟨rfl, _, hEnd⟩
                    case rest =>
                      clear cg cgd CALL GB
                      obtain ⟨rfl, ua3, hG6⟩ := hcut
                      have cg := hG6.cell
                      have cgd := hG6.drew.cell
                      have CALL : Hid (Calls Try.prog 14 #[.pointer (some ⟨d, 0, none⟩)] wc.drew fun e w' => ∃ u, e = .returned u ∧ Ga w w' d sb g l3 r ua3 uo (La ++ [(F : Int)] ++ those [1, 2] 2 l3) Lo ∧ OwnI w.heap.size w' u (those [3] 2 l3)) := Lib.hid (by
                        refine (held_any hG6.drew.sp).mono ?_
                        rintro e w' ⟨u, h1, h2, h3⟩
                        exact ⟨u, h1, hG6.drew.below h3, h2.mono hG6.drew.bl.size⟩)
                      clear hG6
                      go_upto_region 25 with fail
                      go_cut [12] from 117 to 124 (fun s12 wx => s12 = .pointer (some ⟨g, 0, none⟩) ∧ ∃ ua', Ga w wx d sb g l3 r ua' uo (La ++ [(F : Int)] ++ those [1, 2] 2 l3 ++ those [3] 2 l3) Lo)
                      case first =>
                        refine wp_region_held_drew (S := fun _ : World => True) (by kernel_rfl) trivial (fun hHeld => ?_)
                        refine takeH (i := 0) (t := 117) (v := .int .i64 (r : Int)) rfl rfl (by kernel_rfl) (by kernel_rfl) (by kernel_rfl) (fun _ _ _ h => h) (Or.inl ⟨by rfl, fun w hSw => by first | rfl | go_simp⟩) hHeld ?_
                        simp only [Act.put, List.setIfInBounds_toArray, List.set_cons_zero, List.set_cons_succ]
                        refine takeH (i := 1) (t := 118) (v := .int .i64 (r : Int)) rfl rfl (by kernel_rfl) (by kernel_rfl) (by kernel_rfl) (fun _ _ _ h => h) (Or.inl ⟨by rfl, fun w hSw => by first | rfl | go_simp⟩) hHeld ?_
                        simp only [Act.put, List.setIfInBounds_toArray, List.set_cons_zero, List.set_cons_succ]
                        refine takeH (i := 2) (t := 119) (v := .pointer (some ⟨g, r, none⟩)) rfl rfl (by kernel_rfl) (by kernel_rfl) (by kernel_rfl) (fun _ _ _ h => h) (Or.inl ⟨by rfl, fun w hSw => by first | rfl | go_simp⟩) hHeld ?_
                        simp only [Act.put, List.setIfInBounds_toArray, List.set_cons_zero, List.set_cons_succ]
                        refine takeH (i := 4) (t := 121) (v := .pointer (some ⟨d, 0, none⟩)) rfl rfl (by kernel_rfl) (by kernel_rfl) (by kernel_rfl) (fun _ _ _ h => h) (Or.inl ⟨by rfl, fun w hSw => by first | rfl | go_simp⟩) hHeld ?_
                        simp only [Act.put, List.setIfInBounds_toArray, List.set_cons_zero, List.set_cons_succ]
                        refine wpAnyH_ready (rs := [3, 5]) (by kernel_rfl) (by simp) ?_
                        refine AllReadyH.cons rfl (fun K hK => ?_) (AllReadyH.cons rfl (fun K hK => ?_) (AllReadyH.nil))
                        · go_simp
                          refine hK.out _ _ trivial (fun hHeld => ?_)
                          clear hK K
                          refine wpAnyH_ready (rs := [5]) (by kernel_rfl) (by simp) ?_
                          refine AllReadyH.cons rfl (fun K hK => ?_) (AllReadyH.nil)
                          go_simp
                          go_wp2_with (go_at_call 14; refine CALL.out.mono ?_; rintro _ w5 ⟨u5, rfl, hG5, hO5⟩)
                          have hc5 := hG5.cell
                          refine hK.out _ _ trivial (fun hHeld => ?_)
                          clear hK K
                          refine wpAnyH_ready (rs := [6]) (by kernel_rfl) (by simp) ?_
                          refine AllReadyH.cons rfl (fun K hK => ?_) (AllReadyH.nil)
                          refine step_app_ints (by rfl) (.tmp 120) (.tmp 122) (by rfl) (by rfl) hG5.oa hG5.bl.size (by rfl) hO5.ints (by have := LEN.out; have := LT.out; have := LH.out; simp; omega) 123 (by rfl) ?_
                          intro a8 n8 c8' W2 hA
                          simp only [Act.put, List.setIfInBounds_toArray, List.set_cons_zero, List.set_cons_succ]
                          have hF1 := (hG5.cell2 hA.2.1).1
                          have hF2 := (hG5.cell2 hA.2.1).2
                          have hEnd := hG5.app hA.1 hA.2.1 hA.2.2
                          clear hA
                          refine hK.out _ _ trivial (fun hHeld => ?_)
                          clear hK K
                          refine takeH (i := 7) (t := 124) (v := .pointer (some ⟨g, r, none⟩)) rfl rfl (by kernel_rfl) (by kernel_rfl) (by kernel_rfl) (fun _ _ _ h => h) (Or.inl ⟨by rfl, fun w hSw => by first | rfl | go_simp⟩) hHeld ?_
                          simp only [Act.put, List.setIfInBounds_toArray, List.set_cons_zero, List.set_cons_succ]
                          refine wpAnyH_ready (rs := [8]) (by kernel_rfl) (by simp) ?_
                          refine AllReadyH.cons rfl (fun K hK => ?_) (AllReadyH.nil)
                          go_simp
                          refine hK.out _ _ trivial (fun hHeld => ?_)
                          clear hK K
                          refine wpAnyH_done (by kernel_rfl) ?_ _
                          go_wp2_with fail
                          go_meet
                          exact ⟨rfl, _, hEnd⟩
                        · go_simp
                          go_wp2_with (go_at_call 14; refine CALL.out.mono ?_; rintro _ w5 ⟨u5, rfl, hG5, hO5⟩)
                          have hc5 := hG5.cell
                          refine hK.out _ _ trivial (fun hHeld => ?_)
                          clear hK K
                          refine wpAnyH_ready (rs := [3]) (by kernel_rfl) (by simp) ?_
                          refine AllReadyH.cons rfl (fun K hK => ?_) (AllReadyH.nil)
                          go_simp
                          refine hK.out _ _ trivial (fun hHeld => ?_)
                          clear hK K
                          refine wpAnyH_ready (rs := [6]) (by kernel_rfl) (by simp) ?_
                          refine AllReadyH.cons rfl (fun K hK => ?_) (AllReadyH.nil)
                          refine step_app_ints (by rfl) (.tmp 120) (.tmp 122) (by rfl) (by rfl) hG5.oa hG5.bl.size (by rfl) hO5.ints (by have := LEN.out; have := LT.out; have := LH.out; simp; omega) 123 (by rfl) ?_
                          intro a8 n8 c8' W2 hA
                          simp only [Act.put, List.setIfInBounds_toArray, List.set_cons_zero, List.set_cons_succ]
                          have hF1 := (hG5.cell2 hA.2.1).1
                          have hF2 := (hG5.cell2 hA.2.1).2
                          have hEnd := hG5.app hA.1 hA.2.1 hA.2.2
                          clear hA
                          refine hK.out _ _ trivial (fun hHeld => ?_)
                          clear hK K
                          refine takeH (i := 7) (t := 124) (v := .pointer (some ⟨g, r, none⟩)) rfl rfl (by kernel_rfl) (by kernel_rfl) (by kernel_rfl) (fun _ _ _ h => h) (Or.inl ⟨by rfl, fun w hSw => by first | rfl | go_simp⟩) hHeld ?_
                          simp only [Act.put, List.setIfInBounds_toArray, List.set_cons_zero, List.set_cons_succ]
                          refine wpAnyH_ready (rs := [8]) (by kernel_rfl) (by simp) ?_
                          refine AllReadyH.cons rfl (fun K hK => ?_) (AllReadyH.nil)
                          go_simp
                          refine hK.out _ _ trivial (fun hHeld => ?_)
                          clear hK K
                          refine wpAnyH_done (by kernel_rfl) ?_ _
                          go_wp2_with fail
                          go_meet
                          exact ⟨rfl, _, hEnd⟩
                      case rest =>
                        clear cg cgd CALL
                        obtain ⟨rfl, ua4, hG6⟩ := hcut
                        rw [← RWH.out] at hG6
                        have GB := Lib.hid hG6
                        clear hG6
                        have BK := Lib.hid (back_any GB.out.sp)
                        rw [since_back SI3.out] at BK
                        go_wp2_with fail
                        refine BK.out.mono ?_
                        rintro _ w6 ⟨rfl, s6, k6⟩
                        have G6 := Lib.hid (FIN.out w6 ua4 (GB.out.step s6 k6))
                        clear s6 k6 BK
                        go_wp2_with fail
                        go_roundg (2 - (r + 1))
                        case measure => have := G2.out; omega
                        case rel =>
                          obtain ⟨u0, u1, L0, L1, h1, h2, h3, h4, h5⟩ := G6.out
                          exact ⟨r + 1, u0, u1, L0, L1, by omega, rfl, by go_num, h1, h2, h3, h4, h5⟩
          · have hr2' : ¬ (r : Int) < 2 := by omega
            have f1 : decide ((r : Int) < 2) = false := decide_eq_false hr2'
            have f2 : decide (r < 2) = false := decide_eq_false (by omega)
            rw [e0 (by omega), e1 (by omega)] at hga
            obtain ⟨a5, n5, c5, e5⟩ := hga.oa.form
            obtain ⟨a6, n6, c6, e6⟩ := hga.oo.form
            subst e5 e6
            have c0 : wr.cell? ⟨g, 0, none⟩ = some (.slice a5 n5 c5) := hga.cell
            have c1 : wr.cell? ⟨g, 1, none⟩ = some (.slice a6 n6 c6) := by rw [cell_of_row wr g 1 _ _ _ hga.arr]; rfl
            have SI := Lib.hid (sameInts_yes _ _ R wr hga.oa.ints hga.oo.ints)
            have BL := Lib.hid hga.bl
            clear hga e0 e0' e1 e1'
            go_wp2_with fail
            refine SI.out.mono ?_
            rintro _ w7 ⟨rfl, b7⟩
            have B7 := Lib.hid (BL.out.trans (b7.mono BL.out.size))
            clear b7
            go_wp2_with fail
            go_ret
            exact ⟨rfl, B7.out⟩
      · as_aux_lemma =>
        go_wp2_with fail
        refine CM.out.mono ?_
        rintro _ w3 ⟨rfl, s3, k3⟩
        obtain ⟨X, hX⟩ : ∃ X, X = w3.alloc (.cells #[.slice none 0 0, .slice none 0 0] 39) := ⟨_, rfl⟩
        have bX : Below w3.heap.size w3 X := by rw [hX]; exact (Below.refl _ _).alloc (Nat.le_refl _) _
        have GX : Hid (Ga w X d sb w3.heap.size l2 0 (.slice none 0 0) (.slice none 0 0) [] []) := Lib.hid
          ⟨s3.below bX, (S.out.2.1.trans S.out.2.2 k3).trans (bX.mono (S.out.2.1.trans S.out.2.2 k3).size), by rw [hX, heap_alloc_new]; rfl, (S.out.2.1.trans S.out.2.2 k3).size, by decide, OwnI.nil _ _, OwnI.nil _ _, fun k hk => by simp [Value.ownBlock] at hk⟩
        have hX' := hX.symm
        obtain ⟨g, hg⟩ : ∃ g, g = w3.heap.size := ⟨_, rfl⟩
        rw [← hg] at GX
        have hg' := hg.symm
        clear s3 k3 S CM bX hX hg
        go_wp2_with fail
        clear hX' hg'
        go_loopg [13] 2 (fun q si wr => ∃ (r : Nat) (u0 u1 : Value) (L0 L1 : List Int), r ≤ 2 ∧ q = 2 - r ∧ si = .int .i64 r ∧ Ga w wr d sb g l2 0 u0 u1 L0 L1 ∧ (1 ≤ r → L0 = R) ∧ (r = 0 → L0 = []) ∧ (2 ≤ r → L1 = R) ∧ (r ≤ 1 → L1 = []))
        case atStart => exact ⟨0, _, _, [], [], by omega, rfl, rfl, GX.out, fun h => by omega, fun _ => rfl, fun h => by omega, fun _ => rfl⟩
        case round =>
          obtain ⟨r, u0, u1, L0, L1, hr, hq, rfl, hga, e0, e0', e1, e1'⟩ := hrel
          have G2 := Lib.hid hq
          clear hq GX
          by_cases hr2 : r < 2
          · have hr2' : (r : Int) < 2 := by omega
            have f1 : decide ((r : Int) < 2) = true := decide_eq_true hr2'
            obtain ⟨ua, uo, Lo, HG, HF⟩ : ∃ ua uo Lo, Ga w wr d sb g l2 r ua uo [] Lo ∧ (∀ W' ua', Ga w W' d sb g l2 r ua' uo R Lo → ∃ u0 u1 L0 L1, Ga w W' d sb g l2 0 u0 u1 L0 L1 ∧ (1 ≤ r + 1 → L0 = R) ∧ (r + 1 = 0 → L0 = []) ∧ (2 ≤ r + 1 → L1 = R) ∧ (r + 1 ≤ 1 → L1 = [])) := by
              match r, hr2 with
              | 0, _ =>
                rw [e0' rfl] at hga
                refine ⟨u0, u1, L1, hga, fun W' ua' h => ⟨ua', u1, R, L1, h, fun _ => rfl, fun h => by omega, fun h => by omega, fun _ => e1' (by omega)⟩⟩
              | 1, _ =>
                rw [e0 (by omega), e1' (by omega)] at hga
                refine ⟨u1, u0, R, ⟨hga.sp, hga.bl, hga.arr, hga.gb, by decide, hga.oo, hga.oa, fun k h1 h2 => hga.ap k h2 h1⟩, fun W' ua' h => ⟨u0, ua', R, R, ⟨h.sp, h.bl, h.arr, h.gb, by decide, h.oo, h.oa, fun k h1 h2 => h.ap k h2 h1⟩, fun _ => rfl, fun h => by omega, fun _ => rfl, fun h => by omega⟩⟩
            have GA := Lib.hid HG
            have FIN := Lib.hid HF
            clear HG HF hga e0 e0' e1 e1'
            go_wp2_with fail
            go_loopg [14] N2 (fun q si wr => ∃ (j : Nat) (ua : Value), j ≤ N2 ∧ j ≤ 400 ∧ q = N2 - j ∧ si = .int .i64 j ∧ Ga w wr d sb g (gaR (t2.take j) l2).2 r ua uo (gaR (t2.take j) l2).1 Lo)
            case atStart => exact ⟨0, ua, by omega, by omega, rfl, rfl, GA.out⟩
            case round =>
              clear GA
              obtain ⟨j, ua, hj, hj4, hq, rfl, hga⟩ := hrel
              have GA := Lib.hid hga
              have G3 := Lib.hid hq
              clear hga hq
              have LEN : Hid ((gaR (t2.take j) l2).1.length ≤ 800) := Lib.hid (by have := gaR_len (t2.take j) l2; rw [List.length_take] at this; omega)
              by_cases hlt2 : j < N2 ∧ j < 400
              · have q1 : (j : Int) < (N2 : Int) := by omega
                have q2 : (j : Int) < 400 := by omega
                have f1 : decide ((j : Int) < (N2 : Int)) = true := decide_eq_true q1
                have f2 : decide ((j : Int) < 400) = true := decide_eq_true q2
                obtain ⟨x, hx⟩ : ∃ x, t2[j]? = some x := ⟨_, List.getElem?_eq_getElem (by rw [← NN2.out]; exact hlt2.1)⟩
                have HB := Lib.hid (H2.out.1 x (List.mem_of_getElem? hx))
                have SC : Hid (gaR (t2.take (j + 1)) l2 = ((gaR (t2.take j) l2).1 ++ (gaS x (gaR (t2.take j) l2).2).1, (gaS x (gaR (t2.take j) l2).2).2)) := Lib.hid (by rw [List.take_add_one, hx, Option.toList_some, gaR_snoc])
                obtain ⟨b, off, cp, e1, _, _, r1⟩ := (H2.out.below GA.out.bl).at j x hx
                simp only [Value.slice.injEq] at e1
                obtain ⟨rfl, -, rfl⟩ := e1
                have c1 : wr.cell? ⟨b, off + j * 3 + 1, none⟩ = some (.int .i64 x.kind) := r1 1 _ rfl
                have c2 : wr.cell? ⟨b, off + j * 3 + 2, none⟩ = some (.int .i64 x.block) := r1 2 _ rfl
                clear r1 hx
                obtain ⟨La, hLa⟩ : ∃ La, La = (gaR (t2.take j) l2).1 := ⟨_, rfl⟩
                obtain ⟨l3, hl3⟩ : ∃ l3, l3 = (gaR (t2.take j) l2).2 := ⟨_, rfl⟩
                rw [← hLa, ← hl3] at GA SC
                rw [← hLa] at LEN
                clear hLa hl3
                by_cases k1 : x.kind = 1
                · have g5 : (x.kind == 1) = true := by rw [k1]; rfl
                  have TK := Lib.hid (take_any GA.out.sp)
                  have SS : gaS x l3 = ([(takeR 2 l3).1, (takeR 2 l3).2.1], (takeR 2 l3).2.2) := by unfold gaS; rw [if_pos k1]
                  rw [SS] at SC
                  obtain ⟨tb, htb⟩ : ∃ tb, tb = (takeR 2 l3).1 := ⟨_, rfl⟩
                  obtain ⟨te, hte⟩ : ∃ te, te = (takeR 2 l3).2.1 := ⟨_, rfl⟩
                  obtain ⟨l4, hl4⟩ : ∃ l4, l4 = (takeR 2 l3).2.2 := ⟨_, rfl⟩
                  rw [← htb, ← hte, ← hl4] at TK SC
                  clear k1 SS htb hte hl4
                  go_wp2_with fail
                  refine TK.out.mono ?_
                  rintro _ w6 ⟨rfl, s6, k6⟩
                  have G6 := Lib.hid (GA.out.step s6 k6)
                  have cg := G6.out.cell
                  clear s6 k6 TK GA c1 c2
                  go_wp2_with (refine app_new rfl (.tmp 77) (.tmp 80) rfl (m := [tb, te]) rfl rfl G6.out.oa G6.out.bl.size rfl rfl (by have := LEN.out; simp; omega) ?_)
                  intro v' W' o1 o2 o3
                  obtain ⟨a7, n7, c7, e7⟩ := o1.form
                  subst e7
                  have C2 := G6.out.cell2 o2
                  have cg1 := C2.1
                  have cg2 := C2.2
                  have A := Lib.hid (G6.out.app o1 o2 o3)
                  clear o1 o2 o3 C2 cg
                  go_wp2_with fail
                  go_roundg (N2 - (j + 1))
                  case measure => have := G3.out; omega
                  case rel => exact ⟨j + 1, _, by omega, by omega, rfl, by go_num, by rw [SC.out]; exact A.out⟩
                · have g5 : (x.kind == 1) = false := by rw [beq_eq_false_iff_ne]; exact k1
                  by_cases k2 : x.kind = 2
                  · have g6 : (x.kind == 2) = true := by rw [k2]; rfl
                    have GV := Lib.hid (give_any GA.out.sp x.block HB.out)
                    have SS : gaS x l3 = ([(giveR 2 l3 x.block).1], (giveR 2 l3 x.block).2) := by unfold gaS; rw [if_neg k1, if_pos k2]
                    rw [SS] at SC
                    obtain ⟨te, hte⟩ : ∃ te, te = (giveR 2 l3 x.block).1 := ⟨_, rfl⟩
                    obtain ⟨l4, hl4⟩ : ∃ l4, l4 = (giveR 2 l3 x.block).2 := ⟨_, rfl⟩
                    rw [← hte, ← hl4] at GV SC
                    clear k1 k2 SS hte hl4
                    go_wp2_with fail
                    refine GV.out.mono ?_
                    rintro _ w6 ⟨rfl, s6, k6⟩
                    have G6 := Lib.hid (GA.out.step s6 k6)
                    have cg := G6.out.cell
                    clear s6 k6 GV GA c1 c2
                    go_wp2_with (refine app_new rfl (.tmp 95) (.tmp 97) rfl (m := [te]) rfl rfl G6.out.oa G6.out.bl.size rfl rfl (by have := LEN.out; simp; omega) ?_)
                    intro v' W' o1 o2 o3
                    obtain ⟨a7, n7, c7, e7⟩ := o1.form
                    subst e7
                    have C2 := G6.out.cell2 o2
                    have cg1 := C2.1
                    have cg2 := C2.2
                    have A := Lib.hid (G6.out.app o1 o2 o3)
                    clear o1 o2 o3 C2 cg
                    go_wp2_with fail
                    go_roundg (N2 - (j + 1))
                    case measure => have := G3.out; omega
                    case rel => exact ⟨j + 1, _, by omega, by omega, rfl, by go_num, by rw [SC.out]; exact A.out⟩
                  · have g6 : (x.kind == 2) = false := by rw [beq_eq_false_iff_ne]; exact k2
                    have SS : gaS x l3 = ([], l3) := by unfold gaS; rw [if_neg k1, if_neg k2]
                    rw [SS, List.append_nil] at SC
                    clear k1 k2 SS
                    go_wp2_with fail
                    go_roundg (N2 - (j + 1))
                    case measure => have := G3.out; omega
                    case rel => exact ⟨j + 1, _, by omega, by omega, rfl, by go_num, by rw [SC.out]; exact GA.out⟩
              · have GD3 : Hid ((decide ((j : Int) < (N2 : Int)) = false ∧ decide (j < N2) = false) ∨ (decide ((j : Int) < (N2 : Int)) = true ∧ decide (j < N2) = true ∧ decide ((j : Int) < 400) = false ∧ decide (j < 400) = false)) := Lib.hid (by
                  by_cases q : j < N2
                  · exact Or.inr ⟨decide_eq_true (by omega), decide_eq_true (by omega), decide_eq_false (by omega), decide_eq_false (by omega)⟩
                  · exact Or.inl ⟨decide_eq_false (by omega), decide_eq_false (by omega)⟩)
                have ET : t2.take j = t2.take 400 := by
                  by_cases q : j = 400
                  · rw [q]
                  · rw [List.take_of_length_le (by rw [← NN2.out]; omega), List.take_of_length_le (by rw [← NN2.out]; omega)]
                rw [ET] at GA LEN
                have SI3 := Lib.hid (gaR_since SN.out.1 (t2.take 400))
                have RW : R = (gaR (t2.take 400) l2).1 ++ [(freeN (gaR (t2.take 400) l2).2 : Int)] ++ those [1, 2] 2 (gaR (t2.take 400) l2).2 ++ those [3] 2 (gaR (t2.take 400) l2).2 := RR.out
                obtain ⟨La, hLa⟩ : ∃ La, La = (gaR (t2.take 400) l2).1 := ⟨_, rfl⟩
                obtain ⟨l3, hl3⟩ : ∃ l3, l3 = (gaR (t2.take 400) l2).2 := ⟨_, rfl⟩
                rw [← hLa, ← hl3] at GA RW
                rw [← hLa] at LEN
                rw [← hl3] at SI3
                obtain ⟨F, hF⟩ : ∃ F, F = freeN l3 := ⟨_, rfl⟩
                rw [← hF] at RW
                have RWH := Lib.hid RW
                have CALL : Hid (Calls Try.prog 18 #[.pointer (some ⟨d, 0, none⟩)] wr.drew fun e w' => e = .returned (.int .i64 F) ∧ Ga w w' d sb g l3 r ua uo La Lo) := Lib.hid (by
                  rw [hF]
                  refine (free_any GA.out.drew.sp).mono ?_
                  rintro e w' ⟨h1, rfl⟩
                  exact ⟨h1, GA.out.drew⟩)
                clear ET RW hLa hl3 hF hlt2
                have AX : Hid (∀ W : World, Ga w W d sb g l3 r ua uo La Lo → Ga w (W.alloc (.cells #[.int .i64 F] 3)) d sb g l3 r ua uo La Lo ∧ Ints (W.alloc (.cells #[.int .i64 F] 3)) (.slice (some ⟨W.heap.size, 0, none⟩) 1 1) [(F : Int)]) := Lib.hid (fun W h => ⟨h.below ((Below.refl _ _).alloc (Nat.le_refl _) _), new_ints W [(F : Int)] (by simp [maxLen])⟩)
                have cg := GA.out.cell
                have cgd := GA.out.drew.cell
                have hr0 : (0 : Int) ≤ (r : Int) := by omega
                rcases GD3.out with ⟨f1, f2⟩ | ⟨f1, f2, f3, f4⟩
                · as_aux_lemma =>
                  go_upto_region 23 with fail
                  go_cut [12] from 100 to 108 (fun s12 wx => s12 = .pointer (some ⟨g, 0, none⟩) ∧ ∃ ua', Ga w wx d sb g l3 r ua' uo (La ++ [(F : Int)]) Lo)
                  case first =>
                    refine wp_region_held_drew (S := fun _ : World => True) (by kernel_rfl) trivial (fun hHeld => ?_)
                    refine takeH (i := 0) (t := 100) (v := .int .i64 (r : Int)) rfl rfl (by kernel_rfl) (by kernel_rfl) (by kernel_rfl) (fun _ _ _ h => h) (Or.inl ⟨by rfl, fun w hSw => by first | rfl | go_simp⟩) hHeld ?_
                    simp only [Act.put, List.setIfInBounds_toArray, List.set_cons_zero, List.set_cons_succ]
                    refine takeH (i := 1) (t := 101) (v := .int .i64 (r : Int)) rfl rfl (by kernel_rfl) (by kernel_rfl) (by kernel_rfl) (fun _ _ _ h => h) (Or.inl ⟨by rfl, fun w hSw => by first | rfl | go_simp⟩) hHeld ?_
                    simp only [Act.put, List.setIfInBounds_toArray, List.set_cons_zero, List.set_cons_succ]
                    refine takeH (i := 2) (t := 102) (v := .pointer (some ⟨g, r, none⟩)) rfl rfl (by kernel_rfl) (by kernel_rfl) (by kernel_rfl) (fun _ _ _ h => h) (Or.inl ⟨by rfl, fun w hSw => by first | rfl | go_simp⟩) hHeld ?_
                    simp only [Act.put, List.setIfInBounds_toArray, List.set_cons_zero, List.set_cons_succ]
                    refine takeH (i := 4) (t := 104) (v := .pointer (some ⟨d, 0, none⟩)) rfl rfl (by kernel_rfl) (by kernel_rfl) (by kernel_rfl) (fun _ _ _ h => h) (Or.inl ⟨by rfl, fun w hSw => by first | rfl | go_simp⟩) hHeld ?_
                    simp only [Act.put, List.setIfInBounds_toArray, List.set_cons_zero, List.set_cons_succ]
                    refine wpAnyH_ready (rs := [3, 5]) (by kernel_rfl) (by simp) ?_
                    refine AllReadyH.cons rfl (fun K hK => ?_) (AllReadyH.cons rfl (fun K hK => ?_) (AllReadyH.nil))
                    · go_simp
                      refine hK.out _ _ trivial (fun hHeld => ?_)
                      clear hK K
                      refine wpAnyH_ready (rs := [5]) (by kernel_rfl) (by simp) ?_
                      refine AllReadyH.cons rfl (fun K hK => ?_) (AllReadyH.nil)
                      go_simp
                      go_wp2_with (go_at_call 18; refine CALL.out.mono ?_; rintro _ w5 ⟨rfl, hG5⟩)
                      have hc5 := hG5.cell
                      have hc6 := (AX.out _ hG5).1.cell
                      refine hK.out _ _ trivial (fun hHeld => ?_)
                      clear hK K
                      refine wpAnyH_ready (rs := [6]) (by kernel_rfl) (by simp) ?_
                      refine AllReadyH.cons rfl (fun K hK => ?_) (AllReadyH.nil)
                      go_simp
                      refine hK.out _ _ trivial (fun hHeld => ?_)
                      clear hK K
                      refine wpAnyH_ready (rs := [7]) (by kernel_rfl) (by simp) ?_
                      refine AllReadyH.cons rfl (fun K hK => ?_) (AllReadyH.nil)
                      refine step_app_ints (by rfl) (.tmp 103) (.tmp 106) (by rfl) (by rfl) (AX.out _ hG5).1.oa (AX.out _ hG5).1.bl.size (by rfl) (AX.out _ hG5).2 (by have := LEN.out; simp; omega) 107 (by rfl) ?_
                      intro a8 n8 c8' W2 hA
                      simp only [Act.put, List.setIfInBounds_toArray, List.set_cons_zero, List.set_cons_succ]
                      have hF1 := ((AX.out _ hG5).1.cell2 hA.2.1).1
                      have hF2 := ((AX.out _ hG5).1.cell2 hA.2.1).2
                      have hEnd := (AX.out _ hG5).1.app hA.1 hA.2.1 hA.2.2
                      clear hA
                      refine hK.out _ _ trivial (fun hHeld => ?_)
                      clear hK K
                      refine takeH (i := 8) (t := 108) (v := .pointer (some ⟨g, r, none⟩)) rfl rfl (by kernel_rfl) (by kernel_rfl) (by kernel_rfl) (fun _ _ _ h => h) (Or.inl ⟨by rfl, fun w hSw => by first | rfl | go_simp⟩) hHeld ?_
                      simp only [Act.put, List.setIfInBounds_toArray, List.set_cons_zero, List.set_cons_succ]
                      refine wpAnyH_ready (rs := [9]) (by kernel_rfl) (by simp) ?_
                      refine AllReadyH.cons rfl (fun K hK => ?_) (AllReadyH.nil)
                      go_simp
                      refine hK.out _ _ trivial (fun hHeld => ?_)
                      clear hK K
                      refine wpAnyH_done (by kernel_rfl) ?_ _
                      go_wp2_with fail
                      go_meet
                      exact ⟨rfl, _, hEnd⟩
                    · go_simp
                      go_wp2_with (go_at_call 18; refine CALL.out.mono ?_; rintro _ w5 ⟨rfl, hG5⟩)
                      have hc5 := hG5.cell
                      have hc6 := (AX.out _ hG5).1.cell
                      refine hK.out _ _ trivial (fun hHeld => ?_)
                      clear hK K
                      refine wpAnyH_ready (rs := [3, 6]) (by kernel_rfl) (by simp) ?_
                      refine AllReadyH.cons rfl (fun K hK => ?_) (AllReadyH.cons rfl (fun K hK => ?_) (AllReadyH.nil))
                      · go_simp
                        refine hK.out _ _ trivial (fun hHeld => ?_)
                        clear hK K
                        refine wpAnyH_ready (rs := [6]) (by kernel_rfl) (by simp) ?_
                        refine AllReadyH.cons rfl (fun K hK => ?_) (AllReadyH.nil)
                        go_simp
                        refine hK.out _ _ trivial (fun hHeld => ?_)
                        clear hK K
                        refine wpAnyH_ready (rs := [7]) (by kernel_rfl) (by simp) ?_
                        refine AllReadyH.cons rfl (fun K hK => ?_) (AllReadyH.nil)
                        refine step_app_ints (by rfl) (.tmp 103) (.tmp 106) (by rfl) (by rfl) (AX.out _ hG5).1.oa (AX.out _ hG5).1.bl.size (by rfl) (AX.out _ hG5).2 (by have := LEN.out; simp; omega) 107 (by rfl) ?_
                        intro a8 n8 c8' W2 hA
                        simp only [Act.put, List.setIfInBounds_toArray, List.set_cons_zero, List.set_cons_succ]
                        have hF1 := ((AX.out _ hG5).1.cell2 hA.2.1).1
                        have hF2 := ((AX.out _ hG5).1.cell2 hA.2.1).2
                        have hEnd := (AX.out _ hG5).1.app hA.1 hA.2.1 hA.2.2
                        clear hA
                        refine hK.out _ _ trivial (fun hHeld => ?_)
                        clear hK K
                        refine takeH (i := 8) (t := 108) (v := .pointer (some ⟨g, r, none⟩)) rfl rfl (by kernel_rfl) (by kernel_rfl) (by kernel_rfl) (fun _ _ _ h => h) (Or.inl ⟨by rfl, fun w hSw => by first | rfl | go_simp⟩) hHeld ?_
                        simp only [Act.put, List.setIfInBounds_toArray, List.set_cons_zero, List.set_cons_succ]
                        refine wpAnyH_ready (rs := [9]) (by kernel_rfl) (by simp) ?_
                        refine AllReadyH.cons rfl (fun K hK => ?_) (AllReadyH.nil)
                        go_simp
                        refine hK.out _ _ trivial (fun hHeld => ?_)
                        clear hK K
                        refine wpAnyH_done (by kernel_rfl) ?_ _
                        go_wp2_with fail
                        go_meet
                        exact ⟨rfl, _, hEnd⟩
                      · go_simp
                        refine hK.out _ _ trivial (fun hHeld => ?_)
                        clear hK K
                        refine wpAnyH_ready (rs := [3]) (by kernel_rfl) (by simp) ?_
                        refine AllReadyH.cons rfl (fun K hK => ?_) (AllReadyH.nil)
                        go_simp
                        refine hK.out _ _ trivial (fun hHeld => ?_)
                        clear hK K
                        refine wpAnyH_ready (rs := [7]) (by kernel_rfl) (by simp) ?_
                        refine AllReadyH.cons rfl (fun K hK => ?_) (AllReadyH.nil)
                        refine step_app_ints (by rfl) (.tmp 103) (.tmp 106) (by rfl) (by rfl) (AX.out _ hG5).1.oa (AX.out _ hG5).1.bl.size (by rfl) (AX.out _ hG5).2 (by have := LEN.out; simp; omega) 107 (by rfl) ?_
                        intro a8 n8 c8' W2 hA
                        simp only [Act.put, List.setIfInBounds_toArray, List.set_cons_zero, List.set_cons_succ]
                        have hF1 := ((AX.out _ hG5).1.cell2 hA.2.1).1
                        have hF2 := ((AX.out _ hG5).1.cell2 hA.2.1).2
                        have hEnd := (AX.out _ hG5).1.app hA.1 hA.2.1 hA.2.2
                        clear hA
                        refine hK.out _ _ trivial (fun hHeld => ?_)
                        clear hK K
                        refine takeH (i := 8) (t := 108) (v := .pointer (some ⟨g, r, none⟩)) rfl rfl (by kernel_rfl) (by kernel_rfl) (by kernel_rfl) (fun _ _ _ h => h) (Or.inl ⟨by rfl, fun w hSw => by first | rfl | go_simp⟩) hHeld ?_
                        simp only [Act.put, List.setIfInBounds_toArray, List.set_cons_zero, List.set_cons_succ]
                        refine wpAnyH_ready (rs := [9]) (by kernel_rfl) (by simp) ?_
                        refine AllReadyH.cons rfl (fun K hK => ?_) (AllReadyH.nil)
                        go_simp
                        refine hK.out _ _ trivial (fun hHeld => ?_)
                        clear hK K
                        refine wpAnyH_done (by kernel_rfl) ?_ _
                        go_wp2_with fail
                        go_meet
                        exact ⟨rfl, _, hEnd⟩
                  case rest =>
                    clear cg cgd CALL AX
                    obtain ⟨rfl, ua2, hG6⟩ := hcut
                    have GB := Lib.hid hG6
                    have cg := hG6.cell
                    have cgd := hG6.drew.cell
                    have CALL : Hid (Calls Try.prog 10 #[.pointer (some ⟨d, 0, none⟩)] wc.drew fun e w' => ∃ u, e = .returned u ∧ Ga w w' d sb g l3 r ua2 uo (La ++ [(F : Int)]) Lo ∧ OwnI w.heap.size w' u (those [1, 2] 2 l3)) := Lib.hid (by
                      refine (taken_any hG6.drew.sp).mono ?_
                      rintro e w' ⟨u, h1, h2, h3⟩
                      exact ⟨u, h1, hG6.drew.below h3, h2.mono hG6.drew.bl.size⟩)
                    have LT : Hid ((those [1, 2] 2 l3).length ≤ 64) := Lib.hid (by have := those_length [1, 2] 2 l3; rw [SI3.out.1, SN.out.2] at this; omega)
                    have LH : Hid ((those [3] 2 l3).length ≤ 64) := Lib.hid (by have := those_length [3] 2 l3; rw [SI3.out.1, SN.out.2] at this; omega)
                    clear hG6
                    go_upto_region 24 with fail
                    go_cut [12] from 109 to 116 (fun s12 wx => s12 = .pointer (some ⟨g, 0, none⟩) ∧ ∃ ua', Ga w wx d sb g l3 r ua' uo (La ++ [(F : Int)] ++ those [1, 2] 2 l3) Lo)
                    case first =>
                      refine wp_region_held_drew (S := fun _ : World => True) (by kernel_rfl) trivial (fun hHeld => ?_)
                      refine takeH (i := 0) (t := 109) (v := .int .i64 (r : Int)) rfl rfl (by kernel_rfl) (by kernel_rfl) (by kernel_rfl) (fun _ _ _ h => h) (Or.inl ⟨by rfl, fun w hSw => by first | rfl | go_simp⟩) hHeld ?_
                      simp only [Act.put, List.setIfInBounds_toArray, List.set_cons_zero, List.set_cons_succ]
                      refine takeH (i := 1) (t := 110) (v := .int .i64 (r : Int)) rfl rfl (by kernel_rfl) (by kernel_rfl) (by kernel_rfl) (fun _ _ _ h => h) (Or.inl ⟨by rfl, fun w hSw => by first | rfl | go_simp⟩) hHeld ?_
                      simp only [Act.put, List.setIfInBounds_toArray, List.set_cons_zero, List.set_cons_succ]
                      refine takeH (i := 2) (t := 111) (v := .pointer (some ⟨g, r, none⟩)) rfl rfl (by kernel_rfl) (by kernel_rfl) (by kernel_rfl) (fun _ _ _ h => h) (Or.inl ⟨by rfl, fun w hSw => by first | rfl | go_simp⟩) hHeld ?_
                      simp only [Act.put, List.setIfInBounds_toArray, List.set_cons_zero, List.set_cons_succ]
                      refine takeH (i := 4) (t := 113) (v := .pointer (some ⟨d, 0, none⟩)) rfl rfl (by kernel_rfl) (by kernel_rfl) (by kernel_rfl) (fun _ _ _ h => h) (Or.inl ⟨by rfl, fun w hSw => by first | rfl | go_simp⟩) hHeld ?_
                      simp only [Act.put, List.setIfInBounds_toArray, List.set_cons_zero, List.set_cons_succ]
                      refine wpAnyH_ready (rs := [3, 5]) (by kernel_rfl) (by simp) ?_
                      refine AllReadyH.cons rfl (fun K hK => ?_) (AllReadyH.cons rfl (fun K hK => ?_) (AllReadyH.nil))
                      · go_simp
                        refine hK.out _ _ trivial (fun hHeld => ?_)
                        clear hK K
                        refine wpAnyH_ready (rs := [5]) (by kernel_rfl) (by simp) ?_
                        refine AllReadyH.cons rfl (fun K hK => ?_) (AllReadyH.nil)
                        go_simp
                        go_wp2_with (go_at_call 10; refine CALL.out.mono ?_; rintro _ w5 ⟨u5, rfl, hG5, hO5⟩)
                        have hc5 := hG5.cell
                        refine hK.out _ _ trivial (fun hHeld => ?_)
                        clear hK K
                        refine wpAnyH_ready (rs := [6]) (by kernel_rfl) (by simp) ?_
                        refine AllReadyH.cons rfl (fun K hK => ?_) (AllReadyH.nil)
                        refine step_app_ints (by rfl) (.tmp 112) (.tmp 114) (by rfl) (by rfl) hG5.oa hG5.bl.size (by rfl) hO5.ints (by have := LEN.out; have := LT.out; simp; omega) 115 (by rfl) ?_
                        intro a8 n8 c8' W2 hA
                        simp only [Act.put, List.setIfInBounds_toArray, List.set_cons_zero, List.set_cons_succ]
                        have hF1 := (hG5.cell2 hA.2.1).1
                        have hF2 := (hG5.cell2 hA.2.1).2
                        have hEnd := hG5.app hA.1 hA.2.1 hA.2.2
                        clear hA
                        refine hK.out _ _ trivial (fun hHeld => ?_)
                        clear hK K
                        refine takeH (i := 7) (t := 116) (v := .pointer (some ⟨g, r, none⟩)) rfl rfl (by kernel_rfl) (by kernel_rfl) (by kernel_rfl) (fun _ _ _ h => h) (Or.inl ⟨by rfl, fun w hSw => by first | rfl | go_simp⟩) hHeld ?_
                        simp only [Act.put, List.setIfInBounds_toArray, List.set_cons_zero, List.set_cons_succ]
                        refine wpAnyH_ready (rs := [8]) (by kernel_rfl) (by simp) ?_
                        refine AllReadyH.cons rfl (fun K hK => ?_) (AllReadyH.nil)
                        go_simp
                        refine hK.out _ _ trivial (fun hHeld => ?_)
                        clear hK K
                        refine wpAnyH_done (by kernel_rfl) ?_ _
                        go_wp2_with fail
                        go_meet
                        exact ⟨rfl, _, hEnd⟩
                      · go_simp
                        go_wp2_with (go_at_call 10; refine CALL.out.mono ?_; rintro _ w5 ⟨u5, rfl, hG5, hO5⟩)
                        have hc5 := hG5.cell
                        refine hK.out _ _ trivial (fun hHeld => ?_)
                        clear hK K
                        refine wpAnyH_ready (rs := [3]) (by kernel_rfl) (by simp) ?_
                        refine AllReadyH.cons rfl (fun K hK => ?_) (AllReadyH.nil)
                        go_simp
                        refine hK.out _ _ trivial (fun hHeld => ?_)
                        clear hK K
                        refine wpAnyH_ready (rs := [6]) (by kernel_rfl) (by simp) ?_
                        refine AllReadyH.cons rfl (fun K hK => ?_) (AllReadyH.nil)
                        refine step_app_ints (by rfl) (.tmp 112) (.tmp 114) (by rfl) (by rfl) hG5.oa hG5.bl.size (by rfl) hO5.ints (by have := LEN.out; have := LT.out; simp; omega) 115 (by rfl) ?_
                        intro a8 n8 c8' W2 hA
                        simp only [Act.put, List.setIfInBounds_toArray, List.set_cons_zero, List.set_cons_succ]
                        have hF1 := (hG5.cell2 hA.2.1).1
                        have hF2 := (hG5.cell2 hA.2.1).2
                        have hEnd := hG5.app hA.1 hA.2.1 hA.2.2
                        clear hA
                        refine hK.out _ _ trivial (fun hHeld => ?_)
                        clear hK K
                        refine takeH (i := 7) (t := 116) (v := .pointer (some ⟨g, r, none⟩)) rfl rfl (by kernel_rfl) (by kernel_rfl) (by kernel_rfl) (fun _ _ _ h => h) (Or.inl ⟨by rfl, fun w hSw => by first | rfl | go_simp⟩) hHeld ?_
                        simp only [Act.put, List.setIfInBounds_toArray, List.set_cons_zero, List.set_cons_succ]
                        refine wpAnyH_ready (rs := [8]) (by kernel_rfl) (by simp) ?_
                        refine AllReadyH.cons rfl (fun K hK => ?_) (AllReadyH.nil)
                        go_simp
                        refine hK.out _ _ trivial (fun hHeld => ?_)
                        clear hK K
                        refine wpAnyH_done (by kernel_rfl) ?_ _
                        go_wp2_with fail
                        go_meet
                        exact ⟨rfl, _, hEnd⟩
                    case rest =>
                      clear cg cgd CALL GB
                      obtain ⟨rfl, ua3, hG6⟩ := hcut
                      have cg := hG6.cell
                      have cgd := hG6.drew.cell
                      have CALL : Hid (Calls Try.prog 14 #[.pointer (some ⟨d, 0, none⟩)] wc.drew fun e w' => ∃ u, e = .returned u ∧ Ga w w' d sb g l3 r ua3 uo (La ++ [(F : Int)] ++ those [1, 2] 2 l3) Lo ∧ OwnI w.heap.size w' u (those [3] 2 l3)) := Lib.hid (by
                        refine (held_any hG6.drew.sp).mono ?_
                        rintro e w' ⟨u, h1, h2, h3⟩
                        exact ⟨u, h1, hG6.drew.below h3, h2.mono hG6.drew.bl.size⟩)
                      clear hG6
                      go_upto_region 25 with fail
                      go_cut [12] from 117 to 124 (fun s12 wx => s12 = .pointer (some ⟨g, 0, none⟩) ∧ ∃ ua', Ga w wx d sb g l3 r ua' uo (La ++ [(F : Int)] ++ those [1, 2] 2 l3 ++ those [3] 2 l3) Lo)
                      case first =>
                        refine wp_region_held_drew (S := fun _ : World => True) (by kernel_rfl) trivial (fun hHeld => ?_)
                        refine takeH (i := 0) (t := 117) (v := .int .i64 (r : Int)) rfl rfl (by kernel_rfl) (by kernel_rfl) (by kernel_rfl) (fun _ _ _ h => h) (Or.inl ⟨by rfl, fun w hSw => by first | rfl | go_simp⟩) hHeld ?_
                        simp only [Act.put, List.setIfInBounds_toArray, List.set_cons_zero, List.set_cons_succ]
                        refine takeH (i := 1) (t := 118) (v := .int .i64 (r : Int)) rfl rfl (by kernel_rfl) (by kernel_rfl) (by kernel_rfl) (fun _ _ _ h => h) (Or.inl ⟨by rfl, fun w hSw => by first | rfl | go_simp⟩) hHeld ?_
                        simp only [Act.put, List.setIfInBounds_toArray, List.set_cons_zero, List.set_cons_succ]
                        refine takeH (i := 2) (t := 119) (v := .pointer (some ⟨g, r, none⟩)) rfl rfl (by kernel_rfl) (by kernel_rfl) (by kernel_rfl) (fun _ _ _ h => h) (Or.inl ⟨by rfl, fun w hSw => by first | rfl | go_simp⟩) hHeld ?_
                        simp only [Act.put, List.setIfInBounds_toArray, List.set_cons_zero, List.set_cons_succ]
                        refine takeH (i := 4) (t := 121) (v := .pointer (some ⟨d, 0, none⟩)) rfl rfl (by kernel_rfl) (by kernel_rfl) (by kernel_rfl) (fun _ _ _ h => h) (Or.inl ⟨by rfl, fun w hSw => by first | rfl | go_simp⟩) hHeld ?_
                        simp only [Act.put, List.setIfInBounds_toArray, List.set_cons_zero, List.set_cons_succ]
                        refine wpAnyH_ready (rs := [3, 5]) (by kernel_rfl) (by simp) ?_
                        refine AllReadyH.cons rfl (fun K hK => ?_) (AllReadyH.cons rfl (fun K hK => ?_) (AllReadyH.nil))
                        · go_simp
                          refine hK.out _ _ trivial (fun hHeld => ?_)
                          clear hK K
                          refine wpAnyH_ready (rs := [5]) (by kernel_rfl) (by simp) ?_
                          refine AllReadyH.cons rfl (fun K hK => ?_) (AllReadyH.nil)
                          go_simp
                          go_wp2_with (go_at_call 14; refine CALL.out.mono ?_; rintro _ w5 ⟨u5, rfl, hG5, hO5⟩)
                          have hc5 := hG5.cell
                          refine hK.out _ _ trivial (fun hHeld => ?_)
                          clear hK K
                          refine wpAnyH_ready (rs := [6]) (by kernel_rfl) (by simp) ?_
                          refine AllReadyH.cons rfl (fun K hK => ?_) (AllReadyH.nil)
                          refine step_app_ints (by rfl) (.tmp 120) (.tmp 122) (by rfl) (by rfl) hG5.oa hG5.bl.size (by rfl) hO5.ints (by have := LEN.out; have := LT.out; have := LH.out; simp; omega) 123 (by rfl) ?_
                          intro a8 n8 c8' W2 hA
                          simp only [Act.put, List.setIfInBounds_toArray, List.set_cons_zero, List.set_cons_succ]
                          have hF1 := (hG5.cell2 hA.2.1).1
                          have hF2 := (hG5.cell2 hA.2.1).2
                          have hEnd := hG5.app hA.1 hA.2.1 hA.2.2
                          clear hA
                          refine hK.out _ _ trivial (fun hHeld => ?_)
                          clear hK K
                          refine takeH (i := 7) (t := 124) (v := .pointer (some ⟨g, r, none⟩)) rfl rfl (by kernel_rfl) (by kernel_rfl) (by kernel_rfl) (fun _ _ _ h => h) (Or.inl ⟨by rfl, fun w hSw => by first | rfl | go_simp⟩) hHeld ?_
                          simp only [Act.put, List.setIfInBounds_toArray, List.set_cons_zero, List.set_cons_succ]
                          refine wpAnyH_ready (rs := [8]) (by kernel_rfl) (by simp) ?_
                          refine AllReadyH.cons rfl (fun K hK => ?_) (AllReadyH.nil)
                          go_simp
                          refine hK.out _ _ trivial (fun hHeld => ?_)
                          clear hK K
                          refine wpAnyH_done (by kernel_rfl) ?_ _
                          go_wp2_with fail
                          go_meet
                          exact ⟨rfl, _, hEnd⟩
                        · go_simp
                          go_wp2_with (go_at_call 14; refine CALL.out.mono ?_; rintro _ w5 ⟨u5, rfl, hG5, hO5⟩)
                          have hc5 := hG5.cell
                          refine hK.out _ _ trivial (fun hHeld => ?_)
                          clear hK K
                          refine wpAnyH_ready (rs := [3]) (by kernel_rfl) (by simp) ?_
                          refine AllReadyH.cons rfl (fun K hK => ?_) (AllReadyH.nil)
                          go_simp
                          refine hK.out _ _ trivial (fun hHeld => ?_)
                          clear hK K
                          refine wpAnyH_ready (rs := [6]) (by kernel_rfl) (by simp) ?_
                          refine AllReadyH.cons rfl (fun K hK => ?_) (AllReadyH.nil)
                          refine step_app_ints (by rfl) (.tmp 120) (.tmp 122) (by rfl) (by rfl) hG5.oa hG5.bl.size (by rfl) hO5.ints (by have := LEN.out; have := LT.out; have := LH.out; simp; omega) 123 (by rfl) ?_
                          intro a8 n8 c8' W2 hA
                          simp only [Act.put, List.setIfInBounds_toArray, List.set_cons_zero, List.set_cons_succ]
                          have hF1 := (hG5.cell2 hA.2.1).1
                          have hF2 := (hG5.cell2 hA.2.1).2
                          have hEnd := hG5.app hA.1 hA.2.1 hA.2.2
                          clear hA
                          refine hK.out _ _ trivial (fun hHeld => ?_)
                          clear hK K
                          refine takeH (i := 7) (t := 124) (v := .pointer (some ⟨g, r, none⟩)) rfl rfl (by kernel_rfl) (by kernel_rfl) (by kernel_rfl) (fun _ _ _ h => h) (Or.inl ⟨by rfl, fun w hSw => by first | rfl | go_simp⟩) hHeld ?_
                          simp only [Act.put, List.setIfInBounds_toArray, List.set_cons_zero, List.set_cons_succ]
                          refine wpAnyH_ready (rs := [8]) (by kernel_rfl) (by simp) ?_
                          refine AllReadyH.cons rfl (fun K hK => ?_) (AllReadyH.nil)
                          go_simp
                          refine hK.out _ _ trivial (fun hHeld => ?_)
                          clear hK K
                          refine wpAnyH_done (by kernel_rfl) ?_ _
                          go_wp2_with fail
                          go_meet
                          exact ⟨rfl, _, hEnd⟩
                      case rest =>
                        clear cg cgd CALL
                        obtain ⟨rfl, ua4, hG6⟩ := hcut
                        rw [← RWH.out] at hG6
                        have GB := Lib.hid hG6
                        clear hG6
                        have BK := Lib.hid (back_any GB.out.sp)
                        rw [since_back SI3.out] at BK
                        go_wp2_with fail
                        refine BK.out.mono ?_
                        rintro _ w6 ⟨rfl, s6, k6⟩
                        have G6 := Lib.hid (FIN.out w6 ua4 (GB.out.step s6 k6))
                        clear s6 k6 BK
                        go_wp2_with fail
                        go_roundg (2 - (r + 1))
                        case measure => have := G2.out; omega
                        case rel =>
                          obtain ⟨u0, u1, L0, L1, h1, h2, h3, h4, h5⟩ := G6.out
                          exact ⟨r + 1, u0, u1, L0, L1, by omega, rfl, by go_num, h1, h2, h3, h4, h5⟩
                · as_aux_lemma =>
                  go_upto_region 23 with fail
                  go_cut [12] from 100 to 108 (fun s12 wx => s12 = .pointer (some ⟨g, 0, none⟩) ∧ ∃ ua', Ga w wx d sb g l3 r ua' uo (La ++ [(F : Int)]) Lo)
                  case first =>
                    refine wp_region_held_drew (S := fun _ : World => True) (by kernel_rfl) trivial (fun hHeld => ?_)
                    refine takeH (i := 0) (t := 100) (v := .int .i64 (r : Int)) rfl rfl (by kernel_rfl) (by kernel_rfl) (by kernel_rfl) (fun _ _ _ h => h) (Or.inl ⟨by rfl, fun w hSw => by first | rfl | go_simp⟩) hHeld ?_
                    simp only [Act.put, List.setIfInBounds_toArray, List.set_cons_zero, List.set_cons_succ]
                    refine takeH (i := 1) (t := 101) (v := .int .i64 (r : Int)) rfl rfl (by kernel_rfl) (by kernel_rfl) (by kernel_rfl) (fun _ _ _ h => h) (Or.inl ⟨by rfl, fun w hSw => by first | rfl | go_simp⟩) hHeld ?_
                    simp only [Act.put, List.setIfInBounds_toArray, List.set_cons_zero, List.set_cons_succ]
                    refine takeH (i := 2) (t := 102) (v := .pointer (some ⟨g, r, none⟩)) rfl rfl (by kernel_rfl) (by kernel_rfl) (by kernel_rfl) (fun _ _ _ h => h) (Or.inl ⟨by rfl, fun w hSw => by first | rfl | go_simp⟩) hHeld ?_
                    simp only [Act.put, List.setIfInBounds_toArray, List.set_cons_zero, List.set_cons_succ]
                    refine takeH (i := 4) (t := 104) (v := .pointer (some ⟨d, 0, none⟩)) rfl rfl (by kernel_rfl) (by kernel_rfl) (by kernel_rfl) (fun _ _ _ h => h) (Or.inl ⟨by rfl, fun w hSw => by first | rfl | go_simp⟩) hHeld ?_
                    simp only [Act.put, List.setIfInBounds_toArray, List.set_cons_zero, List.set_cons_succ]
                    refine wpAnyH_ready (rs := [3, 5]) (by kernel_rfl) (by simp) ?_
                    refine AllReadyH.cons rfl (fun K hK => ?_) (AllReadyH.cons rfl (fun K hK => ?_) (AllReadyH.nil))
                    · go_simp
                      refine hK.out _ _ trivial (fun hHeld => ?_)
                      clear hK K
                      refine wpAnyH_ready (rs := [5]) (by kernel_rfl) (by simp) ?_
                      refine AllReadyH.cons rfl (fun K hK => ?_) (AllReadyH.nil)
                      go_simp
                      go_wp2_with (go_at_call 18; refine CALL.out.mono ?_; rintro _ w5 ⟨rfl, hG5⟩)
                      have hc5 := hG5.cell
                      have hc6 := (AX.out _ hG5).1.cell
                      refine hK.out _ _ trivial (fun hHeld => ?_)
                      clear hK K
                      refine wpAnyH_ready (rs := [6]) (by kernel_rfl) (by simp) ?_
                      refine AllReadyH.cons rfl (fun K hK => ?_) (AllReadyH.nil)
                      go_simp
                      refine hK.out _ _ trivial (fun hHeld => ?_)
                      clear hK K
                      refine wpAnyH_ready (rs := [7]) (by kernel_rfl) (by simp) ?_
                      refine AllReadyH.cons rfl (fun K hK => ?_) (AllReadyH.nil)
                      refine step_app_ints (by rfl) (.tmp 103) (.tmp 106) (by rfl) (by rfl) (AX.out _ hG5).1.oa (AX.out _ hG5).1.bl.size (by rfl) (AX.out _ hG5).2 (by have := LEN.out; simp; omega) 107 (by rfl) ?_
                      intro a8 n8 c8' W2 hA
                      simp only [Act.put, List.setIfInBounds_toArray, List.set_cons_zero, List.set_cons_succ]
                      have hF1 := ((AX.out _ hG5).1.cell2 hA.2.1).1
                      have hF2 := ((AX.out _ hG5).1.cell2 hA.2.1).2
                      have hEnd := (AX.out _ hG5).1.app hA.1 hA.2.1 hA.2.2
                      clear hA
                      refine hK.out _ _ trivial (fun hHeld => ?_)
                      clear hK K
                      refine takeH (i := 8) (t := 108) (v := .pointer (some ⟨g, r, none⟩)) rfl rfl (by kernel_rfl) (by kernel_rfl) (by kernel_rfl) (fun _ _ _ h => h) (Or.inl ⟨by rfl, fun w hSw => by first | rfl | go_simp⟩) hHeld ?_
                      simp only [Act.put, List.setIfInBounds_toArray, List.set_cons_zero, List.set_cons_succ]
                      refine wpAnyH_ready (rs := [9]) (by kernel_rfl) (by simp) ?_
                      refine AllReadyH.cons rfl (fun K hK => ?_) (AllReadyH.nil)
                      go_simp
                      refine hK.out _ _ trivial (fun hHeld => ?_)
                      clear hK K
                      refine wpAnyH_done (by kernel_rfl) ?_ _
                      go_wp2_with fail
                      go_meet
                      exact ⟨rfl, _, hEnd⟩
                    · go_simp
                      go_wp2_with (go_at_call 18; refine CALL.out.mono ?_; rintro _ w5 ⟨rfl, hG5⟩)
                      have hc5 := hG5.cell
                      have hc6 := (AX.out _ hG5).1.cell
                      refine hK.out _ _ trivial (fun hHeld => ?_)
                      clear hK K
                      refine wpAnyH_ready (rs := [3, 6]) (by kernel_rfl) (by simp) ?_
                      refine AllReadyH.cons rfl (fun K hK => ?_) (AllReadyH.cons rfl (fun K hK => ?_) (AllReadyH.nil))
                      · go_simp
                        refine hK.out _ _ trivial (fun hHeld => ?_)
                        clear hK K
                        refine wpAnyH_ready (rs := [6]) (by kernel_rfl) (by simp) ?_
                        refine AllReadyH.cons rfl (fun K hK => ?_) (AllReadyH.nil)
                        go_simp
                        refine hK.out _ _ trivial (fun hHeld => ?_)
                        clear hK K
                        refine wpAnyH_ready (rs := [7]) (by kernel_rfl) (by simp) ?_
                        refine AllReadyH.cons rfl (fun K hK => ?_) (AllReadyH.nil)
                        refine step_app_ints (by rfl) (.tmp 103) (.tmp 106) (by rfl) (by rfl) (AX.out _ hG5).1.oa (AX.out _ hG5).1.bl.size (by rfl) (AX.out _ hG5).2 (by have := LEN.out; simp; omega) 107 (by rfl) ?_
                        intro a8 n8 c8' W2 hA
                        simp only [Act.put, List.setIfInBounds_toArray, List.set_cons_zero, List.set_cons_succ]
                        have hF1 := ((AX.out _ hG5).1.cell2 hA.2.1).1
                        have hF2 := ((AX.out _ hG5).1.cell2 hA.2.1).2
                        have hEnd := (AX.out _ hG5).1.app hA.1 hA.2.1 hA.2.2
                        clear hA
                        refine hK.out _ _ trivial (fun hHeld => ?_)
                        clear hK K
                        refine takeH (i := 8) (t := 108) (v := .pointer (some ⟨g, r, none⟩)) rfl rfl (by kernel_rfl) (by kernel_rfl) (by kernel_rfl) (fun _ _ _ h => h) (Or.inl ⟨by rfl, fun w hSw => by first | rfl | go_simp⟩) hHeld ?_
                        simp only [Act.put, List.setIfInBounds_toArray, List.set_cons_zero, List.set_cons_succ]
                        refine wpAnyH_ready (rs := [9]) (by kernel_rfl) (by simp) ?_
                        refine AllReadyH.cons rfl (fun K hK => ?_) (AllReadyH.nil)
                        go_simp
                        refine hK.out _ _ trivial (fun hHeld => ?_)
                        clear hK K
                        refine wpAnyH_done (by kernel_rfl) ?_ _
                        go_wp2_with fail
                        go_meet
                        exact ⟨rfl, _, hEnd⟩
                      · go_simp
                        refine hK.out _ _ trivial (fun hHeld => ?_)
                        clear hK K
                        refine wpAnyH_ready (rs := [3]) (by kernel_rfl) (by simp) ?_
                        refine AllReadyH.cons rfl (fun K hK => ?_) (AllReadyH.nil)
                        go_simp
                        refine hK.out _ _ trivial (fun hHeld => ?_)
                        clear hK K
                        refine wpAnyH_ready (rs := [7]) (by kernel_rfl) (by simp) ?_
                        refine AllReadyH.cons rfl (fun K hK => ?_) (AllReadyH.nil)
                        refine step_app_ints (by rfl) (.tmp 103) (.tmp 106) (by rfl) (by rfl) (AX.out _ hG5).1.oa (AX.out _ hG5).1.bl.size (by rfl) (AX.out _ hG5).2 (by have := LEN.out; simp; omega) 107 (by rfl) ?_
                        intro a8 n8 c8' W2 hA
                        simp only [Act.put, List.setIfInBounds_toArray, List.set_cons_zero, List.set_cons_succ]
                        have hF1 := ((AX.out _ hG5).1.cell2 hA.2.1).1
                        have hF2 := ((AX.out _ hG5).1.cell2 hA.2.1).2
                        have hEnd := (AX.out _ hG5).1.app hA.1 hA.2.1 hA.2.2
                        clear hA
                        refine hK.out _ _ trivial (fun hHeld => ?_)
                        clear hK K
                        refine takeH (i := 8) (t := 108) (v := .pointer (some ⟨g, r, none⟩)) rfl rfl (by kernel_rfl) (by kernel_rfl) (by kernel_rfl) (fun _ _ _ h => h) (Or.inl ⟨by rfl, fun w hSw => by first | rfl | go_simp⟩) hHeld ?_
                        simp only [Act.put, List.setIfInBounds_toArray, List.set_cons_zero, List.set_cons_succ]
                        refine wpAnyH_ready (rs := [9]) (by kernel_rfl) (by simp) ?_
                        refine AllReadyH.cons rfl (fun K hK => ?_) (AllReadyH.nil)
                        go_simp
                        refine hK.out _ _ trivial (fun hHeld => ?_)
                        clear hK K
                        refine wpAnyH_done (by kernel_rfl) ?_ _
                        go_wp2_with fail
                        go_meet
                        exact ⟨rfl, _, hEnd⟩
                  case rest =>
                    clear cg cgd CALL AX
                    obtain ⟨rfl, ua2, hG6⟩ := hcut
                    have GB := Lib.hid hG6
                    have cg := hG6.cell
                    have cgd := hG6.drew.cell
                    have CALL : Hid (Calls Try.prog 10 #[.pointer (some ⟨d, 0, none⟩)] wc.drew fun e w' => ∃ u, e = .returned u ∧ Ga w w' d sb g l3 r ua2 uo (La ++ [(F : Int)]) Lo ∧ OwnI w.heap.size w' u (those [1, 2] 2 l3)) := Lib.hid (by
                      refine (taken_any hG6.drew.sp).mono ?_
                      rintro e w' ⟨u, h1, h2, h3⟩
                      exact ⟨u, h1, hG6.drew.below h3, h2.mono hG6.drew.bl.size⟩)
                    have LT : Hid ((those [1, 2] 2 l3).length ≤ 64) := Lib.hid (by have := those_length [1, 2] 2 l3; rw [SI3.out.1, SN.out.2] at this; omega)
                    have LH : Hid ((those [3] 2 l3).length ≤ 64) := Lib.hid (by have := those_length [3] 2 l3; rw [SI3.out.1, SN.out.2] at this; omega)
                    clear hG6
                    go_upto_region 24 with fail
                    go_cut [12] from 109 to 116 (fun s12 wx => s12 = .pointer (some ⟨g, 0, none⟩) ∧ ∃ ua', Ga w wx d sb g l3 r ua' uo (La ++ [(F : Int)] ++ those [1, 2] 2 l3) Lo)
                    case first =>
                      refine wp_region_held_drew (S := fun _ : World => True) (by kernel_rfl) trivial (fun hHeld => ?_)
                      refine takeH (i := 0) (t := 109) (v := .int .i64 (r : Int)) rfl rfl (by kernel_rfl) (by kernel_rfl) (by kernel_rfl) (fun _ _ _ h => h) (Or.inl ⟨by rfl, fun w hSw => by first | rfl | go_simp⟩) hHeld ?_
                      simp only [Act.put, List.setIfInBounds_toArray, List.set_cons_zero, List.set_cons_succ]
                      refine takeH (i := 1) (t := 110) (v := .int .i64 (r : Int)) rfl rfl (by kernel_rfl) (by kernel_rfl) (by kernel_rfl) (fun _ _ _ h => h) (Or.inl ⟨by rfl, fun w hSw => by first | rfl | go_simp⟩) hHeld ?_
                      simp only [Act.put, List.setIfInBounds_toArray, List.set_cons_zero, List.set_cons_succ]
                      refine takeH (i := 2) (t := 111) (v := .pointer (some ⟨g, r, none⟩)) rfl rfl (by kernel_rfl) (by kernel_rfl) (by kernel_rfl) (fun _ _ _ h => h) (Or.inl ⟨by rfl, fun w hSw => by first | rfl | go_simp⟩) hHeld ?_
                      simp only [Act.put, List.setIfInBounds_toArray, List.set_cons_zero, List.set_cons_succ]
                      refine takeH (i := 4) (t := 113) (v := .pointer (some ⟨d, 0, none⟩)) rfl rfl (by kernel_rfl) (by kernel_rfl) (by kernel_rfl) (fun _ _ _ h => h) (Or.inl ⟨by rfl, fun w hSw => by first | rfl | go_simp⟩) hHeld ?_
                      simp only [Act.put, List.setIfInBounds_toArray, List.set_cons_zero, List.set_cons_succ]
                      refine wpAnyH_ready (rs := [3, 5]) (by kernel_rfl) (by simp) ?_
                      refine AllReadyH.cons rfl (fun K hK => ?_) (AllReadyH.cons rfl (fun K hK => ?_) (AllReadyH.nil))
                      · go_simp
                        refine hK.out _ _ trivial (fun hHeld => ?_)
                        clear hK K
                        refine wpAnyH_ready (rs := [5]) (by kernel_rfl) (by simp) ?_
                        refine AllReadyH.cons rfl (fun K hK => ?_) (AllReadyH.nil)
                        go_simp
                        go_wp2_with (go_at_call 10; refine CALL.out.mono ?_; rintro _ w5 ⟨u5, rfl, hG5, hO5⟩)
                        have hc5 := hG5.cell
                        refine hK.out _ _ trivial (fun hHeld => ?_)
                        clear hK K
                        refine wpAnyH_ready (rs := [6]) (by kernel_rfl) (by simp) ?_
                        refine AllReadyH.cons rfl (fun K hK => ?_) (AllReadyH.nil)
                        refine step_app_ints (by rfl) (.tmp 112) (.tmp 114) (by rfl) (by rfl) hG5.oa hG5.bl.size (by rfl) hO5.ints (by have := LEN.out; have := LT.out; simp; omega) 115 (by rfl) ?_
                        intro a8 n8 c8' W2 hA
                        simp only [Act.put, List.setIfInBounds_toArray, List.set_cons_zero, List.set_cons_succ]
                        have hF1 := (hG5.cell2 hA.2.1).1
                        have hF2 := (hG5.cell2 hA.2.1).2
                        have hEnd := hG5.app hA.1 hA.2.1 hA.2.2
                        clear hA
                        refine hK.out _ _ trivial (fun hHeld => ?_)
                        clear hK K
                        refine takeH (i := 7) (t := 116) (v := .pointer (some ⟨g, r, none⟩)) rfl rfl (by kernel_rfl) (by kernel_rfl) (by kernel_rfl) (fun _ _ _ h => h) (Or.inl ⟨by rfl, fun w hSw => by first | rfl | go_simp⟩) hHeld ?_
                        simp only [Act.put, List.setIfInBounds_toArray, List.set_cons_zero, List.set_cons_succ]
                        refine wpAnyH_ready (rs := [8]) (by kernel_rfl) (by simp) ?_
                        refine AllReadyH.cons rfl (fun K hK => ?_) (AllReadyH.nil)
                        go_simp
                        refine hK.out _ _ trivial (fun hHeld => ?_)
                        clear hK K
                        refine wpAnyH_done (by kernel_rfl) ?_ _
                        go_wp2_with fail
                        go_meet
                        exact ⟨rfl, _, hEnd⟩
                      · go_simp
                        go_wp2_with (go_at_call 10; refine CALL.out.mono ?_; rintro _ w5 ⟨u5, rfl, hG5, hO5⟩)
                        have hc5 := hG5.cell
                        refine hK.out _ _ trivial (fun hHeld => ?_)
                        clear hK K
                        refine wpAnyH_ready (rs := [3]) (by kernel_rfl) (by simp) ?_
                        refine AllReadyH.cons rfl (fun K hK => ?_) (AllReadyH.nil)
                        go_simp
                        refine hK.out _ _ trivial (fun hHeld => ?_)
                        clear hK K
                        refine wpAnyH_ready (rs := [6]) (by kernel_rfl) (by simp) ?_
                        refine AllReadyH.cons rfl (fun K hK => ?_) (AllReadyH.nil)
                        refine step_app_ints (by rfl) (.tmp 112) (.tmp 114) (by rfl) (by rfl) hG5.oa hG5.bl.size (by rfl) hO5.ints (by have := LEN.out; have := LT.out; simp; omega) 115 (by rfl) ?_
                        intro a8 n8 c8' W2 hA
                        simp only [Act.put, List.setIfInBounds_toArray, List.set_cons_zero, List.set_cons_succ]
                        have hF1 := (hG5.cell2 hA.2.1).1
                        have hF2 := (hG5.cell2 hA.2.1).2
                        have hEnd := hG5.app hA.1 hA.2.1 hA.2.2
                        clear hA
                        refine hK.out _ _ trivial (fun hHeld => ?_)
                        clear hK K
                        refine takeH (i := 7) (t := 116) (v := .pointer (some ⟨g, r, none⟩)) rfl rfl (by kernel_rfl) (by kernel_rfl) (by kernel_rfl) (fun _ _ _ h => h) (Or.inl ⟨by rfl, fun w hSw => by first | rfl | go_simp⟩) hHeld ?_
                        simp only [Act.put, List.setIfInBounds_toArray, List.set_cons_zero, List.set_cons_succ]
                        refine wpAnyH_ready (rs := [8]) (by kernel_rfl) (by simp) ?_
                        refine AllReadyH.cons rfl (fun K hK => ?_) (AllReadyH.nil)
                        go_simp
                        refine hK.out _ _ trivial (fun hHeld => ?_)
                        clear hK K
                        refine wpAnyH_done (by kernel_rfl) ?_ _
                        go_wp2_with fail
                        go_meet
                        exact ⟨rfl, _, hEnd⟩
                    case rest =>
                      clear cg cgd CALL GB
                      obtain ⟨rfl, ua3, hG6⟩ := hcut
                      have cg := hG6.cell
                      have cgd := hG6.drew.cell
                      have CALL : Hid (Calls Try.prog 14 #[.pointer (some ⟨d, 0, none⟩)] wc.drew fun e w' => ∃ u, e = .returned u ∧ Ga w w' d sb g l3 r ua3 uo (La ++ [(F : Int)] ++ those [1, 2] 2 l3) Lo ∧ OwnI w.heap.size w' u (those [3] 2 l3)) := Lib.hid (by
                        refine (held_any hG6.drew.sp).mono ?_
                        rintro e w' ⟨u, h1, h2, h3⟩
                        exact ⟨u, h1, hG6.drew.below h3, h2.mono hG6.drew.bl.size⟩)
                      clear hG6
                      go_upto_region 25 with fail
                      go_cut [12] from 117 to 124 (fun s12 wx => s12 = .pointer (some ⟨g, 0, none⟩) ∧ ∃ ua', Ga w wx d sb g l3 r ua' uo (La ++ [(F : Int)] ++ those [1, 2] 2 l3 ++ those [3] 2 l3) Lo)
                      case first =>
                        refine wp_region_held_drew (S := fun _ : World => True) (by kernel_rfl) trivial (fun hHeld => ?_)
                        refine takeH (i := 0) (t := 117) (v := .int .i64 (r : Int)) rfl rfl (by kernel_rfl) (by kernel_rfl) (by kernel_rfl) (fun _ _ _ h => h) (Or.inl ⟨by rfl, fun w hSw => by first | rfl | go_simp⟩) hHeld ?_
                        simp only [Act.put, List.setIfInBounds_toArray, List.set_cons_zero, List.set_cons_succ]
                        refine takeH (i := 1) (t := 118) (v := .int .i64 (r : Int)) rfl rfl (by kernel_rfl) (by kernel_rfl) (by kernel_rfl) (fun _ _ _ h => h) (Or.inl ⟨by rfl, fun w hSw => by first | rfl | go_simp⟩) hHeld ?_
                        simp only [Act.put, List.setIfInBounds_toArray, List.set_cons_zero, List.set_cons_succ]
                        refine takeH (i := 2) (t := 119) (v := .pointer (some ⟨g, r, none⟩)) rfl rfl (by kernel_rfl) (by kernel_rfl) (by kernel_rfl) (fun _ _ _ h => h) (Or.inl ⟨by rfl, fun w hSw => by first | rfl | go_simp⟩) hHeld ?_
                        simp only [Act.put, List.setIfInBounds_toArray, List.set_cons_zero, List.set_cons_succ]
                        refine takeH (i := 4) (t := 121) (v := .pointer (some ⟨d, 0, none⟩)) rfl rfl (by kernel_rfl) (by kernel_rfl) (by kernel_rfl) (fun _ _ _ h => h) (Or.inl ⟨by rfl, fun w hSw => by first | rfl | go_simp⟩) hHeld ?_
                        simp only [Act.put, List.setIfInBounds_toArray, List.set_cons_zero, List.set_cons_succ]
                        refine wpAnyH_ready (rs := [3, 5]) (by kernel_rfl) (by simp) ?_
                        refine AllReadyH.cons rfl (fun K hK => ?_) (AllReadyH.cons rfl (fun K hK => ?_) (AllReadyH.nil))
                        · go_simp
                          refine hK.out _ _ trivial (fun hHeld => ?_)
                          clear hK K
                          refine wpAnyH_ready (rs := [5]) (by kernel_rfl) (by simp) ?_
                          refine AllReadyH.cons rfl (fun K hK => ?_) (AllReadyH.nil)
                          go_simp
                          go_wp2_with (go_at_call 14; refine CALL.out.mono ?_; rintro _ w5 ⟨u5, rfl, hG5, hO5⟩)
                          have hc5 := hG5.cell
                          refine hK.out _ _ trivial (fun hHeld => ?_)
                          clear hK K
                          refine wpAnyH_ready (rs := [6]) (by kernel_rfl) (by simp) ?_
                          refine AllReadyH.cons rfl (fun K hK => ?_) (AllReadyH.nil)
                          refine step_app_ints (by rfl) (.tmp 120) (.tmp 122) (by rfl) (by rfl) hG5.oa hG5.bl.size (by rfl) hO5.ints (by have := LEN.out; have := LT.out; have := LH.out; simp; omega) 123 (by rfl) ?_
                          intro a8 n8 c8' W2 hA
                          simp only [Act.put, List.setIfInBounds_toArray, List.set_cons_zero, List.set_cons_succ]
                          have hF1 := (hG5.cell2 hA.2.1).1
                          have hF2 := (hG5.cell2 hA.2.1).2
                          have hEnd := hG5.app hA.1 hA.2.1 hA.2.2
                          clear hA
                          refine hK.out _ _ trivial (fun hHeld => ?_)
                          clear hK K
                          refine takeH (i := 7) (t := 124) (v := .pointer (some ⟨g, r, none⟩)) rfl rfl (by kernel_rfl) (by kernel_rfl) (by kernel_rfl) (fun _ _ _ h => h) (Or.inl ⟨by rfl, fun w hSw => by first | rfl | go_simp⟩) hHeld ?_
                          simp only [Act.put, List.setIfInBounds_toArray, List.set_cons_zero, List.set_cons_succ]
                          refine wpAnyH_ready (rs := [8]) (by kernel_rfl) (by simp) ?_
                          refine AllReadyH.cons rfl (fun K hK => ?_) (AllReadyH.nil)
                          go_simp
                          refine hK.out _ _ trivial (fun hHeld => ?_)
                          clear hK K
                          refine wpAnyH_done (by kernel_rfl) ?_ _
                          go_wp2_with fail
                          go_meet
                          exact ⟨rfl, _, hEnd⟩
                        · go_simp
                          go_wp2_with (go_at_call 14; refine CALL.out.mono ?_; rintro _ w5 ⟨u5, rfl, hG5, hO5⟩)
                          have hc5 := hG5.cell
                          refine hK.out _ _ trivial (fun hHeld => ?_)
                          clear hK K
                          refine wpAnyH_ready (rs := [3]) (by kernel_rfl) (by simp) ?_
                          refine AllReadyH.cons rfl (fun K hK => ?_) (AllReadyH.nil)
                          go_simp
                          refine hK.out _ _ trivial (fun hHeld => ?_)
                          clear hK K
                          refine wpAnyH_ready (rs := [6]) (by kernel_rfl) (by simp) ?_
                          refine AllReadyH.cons rfl (fun K hK => ?_) (AllReadyH.nil)
                          refine step_app_ints (by rfl) (.tmp 120) (.tmp 122) (by rfl) (by rfl) hG5.oa hG5.bl.size (by rfl) hO5.ints (by have := LEN.out; have := LT.out; have := LH.out; simp; omega) 123 (by rfl) ?_
                          intro a8 n8 c8' W2 hA
                          simp only [Act.put, List.setIfInBounds_toArray, List.set_cons_zero, List.set_cons_succ]
                          have hF1 := (hG5.cell2 hA.2.1).1
                          have hF2 := (hG5.cell2 hA.2.1).2
                          have hEnd := hG5.app hA.1 hA.2.1 hA.2.2
                          clear hA
                          refine hK.out _ _ trivial (fun hHeld => ?_)
                          clear hK K
                          refine takeH (i := 7) (t := 124) (v := .pointer (some ⟨g, r, none⟩)) rfl rfl (by kernel_rfl) (by kernel_rfl) (by kernel_rfl) (fun _ _ _ h => h) (Or.inl ⟨by rfl, fun w hSw => by first | rfl | go_simp⟩) hHeld ?_
                          simp only [Act.put, List.setIfInBounds_toArray, List.set_cons_zero, List.set_cons_succ]
                          refine wpAnyH_ready (rs := [8]) (by kernel_rfl) (by simp) ?_
                          refine AllReadyH.cons rfl (fun K hK => ?_) (AllReadyH.nil)
                          go_simp
                          refine hK.out _ _ trivial (fun hHeld => ?_)
                          clear hK K
                          refine wpAnyH_done (by kernel_rfl) ?_ _
                          go_wp2_with fail
                          go_meet
                          exact ⟨rfl, _, hEnd⟩
                      case rest =>
                        clear cg cgd CALL
                        obtain ⟨rfl, ua4, hG6⟩ := hcut
                        rw [← RWH.out] at hG6
                        have GB := Lib.hid hG6
                        clear hG6
                        have BK := Lib.hid (back_any GB.out.sp)
                        rw [since_back SI3.out] at BK
                        go_wp2_with fail
                        refine BK.out.mono ?_
                        rintro _ w6 ⟨rfl, s6, k6⟩
                        have G6 := Lib.hid (FIN.out w6 ua4 (GB.out.step s6 k6))
                        clear s6 k6 BK
                        go_wp2_with fail
                        go_roundg (2 - (r + 1))
                        case measure => have := G2.out; omega
                        case rel =>
                          obtain ⟨u0, u1, L0, L1, h1, h2, h3, h4, h5⟩ := G6.out
                          exact ⟨r + 1, u0, u1, L0, L1, by omega, rfl, by go_num, h1, h2, h3, h4, h5⟩
          · have hr2' : ¬ (r : Int) < 2 := by omega
            have f1 : decide ((r : Int) < 2) = false := decide_eq_false hr2'
            have f2 : decide (r < 2) = false := decide_eq_false (by omega)
            rw [e0 (by omega), e1 (by omega)] at hga
            obtain ⟨a5, n5, c5, e5⟩ := hga.oa.form
            obtain ⟨a6, n6, c6, e6⟩ := hga.oo.form
            subst e5 e6
            have c0 : wr.cell? ⟨g, 0, none⟩ = some (.slice a5 n5 c5) := hga.cell
            have c1 : wr.cell? ⟨g, 1, none⟩ = some (.slice a6 n6 c6) := by rw [cell_of_row wr g 1 _ _ _ hga.arr]; rfl
            have SI := Lib.hid (sameInts_yes _ _ R wr hga.oa.ints hga.oo.ints)
            have BL := Lib.hid hga.bl
            clear hga e0 e0' e1 e1'
            go_wp2_with fail
            refine SI.out.mono ?_
            rintro _ w7 ⟨rfl, b7⟩
            have B7 := Lib.hid (BL.out.trans (b7.mono BL.out.size))
            clear b7
            go_wp2_with fail
            go_ret
            exact ⟨rfl, B7.out⟩
end Go.Proofs.Ytfdhccanacpanaa
