/-
  Read of a device that is up.
-/
import Derived.Test.YtbdlebengmbooaaAnQ
import Derived.BigQuiet
import Derived.Lib.QuietBelow
import Derived.Deep.MidRow
import Derived.RegionTactic
import Derived.BigRegion
namespace Go.Proofs.Ytbdlebengmbooaa
open Go.RowKit Go.Maps Go.Sort
variable {B : Nat} {w : World} {d mb mp : Nat} {cv : Value} {ds : DS}
set_option maxRecDepth 100000 in
set_option maxHeartbeats 16000000 in
theorem read_up (h : Dv B w d mb mp cv ds) (hdn : ds.down = false) : Calls Try.prog 17 #[.pointer (some ⟨d, 0, none⟩)] w fun e w' => e = .returned (.tuple #[.agg (readU ds).1.arr, .int .i64 (readU ds).2.1, .int .i64 (readU ds).2.2]) ∧ Dv B w' d mb mp cv (rdk ds 2) ∧ Kept (fun k => k = d) w w' := by
  obtain ⟨RR, hRR⟩ : ∃ RR, RR = readU ds := ⟨_, rfl⟩
  rw [← hRR]
  have HR := Lib.hid hRR
  clear hRR
  obtain ⟨X1, hX1⟩ : ∃ X, X = w.alloc (.cells #[.int .i64 0, .int .i64 0, .int .i64 0, .int .i64 0, .int .i64 0, .int .i64 0, .int .i64 0, .int .i64 0, .int .i64 0] 34) := ⟨_, rfl⟩
  obtain ⟨gr, hgr⟩ : ∃ g, g = w.heap.size := ⟨_, rfl⟩
  obtain ⟨X, hX⟩ : ∃ X, X = X1.alloc (.cells #[.int .i64 0, .int .i64 0, .int .i64 0, .int .i64 0, .int .i64 0, .int .i64 0, .int .i64 0, .int .i64 0, .int .i64 0] 34) := ⟨_, rfl⟩
  obtain ⟨gn, hgn⟩ : ∃ g, g = X1.heap.size := ⟨_, rfl⟩
  have dlt := (h.foot_lt d (foot_self d mb mp cv)).2
  have s1 : gn = gr + 1 := by rw [hgn, hX1, hgr]; simp
  have R0 : Hid (Rs B w X d mb mp cv gr gn (rdk ds 0) (bst ds 0)) := Lib.hid (by
    have b1 : Below w.heap.size w X1 := by rw [hX1]; exact (Below.refl _ _).alloc (Nat.le_refl _) _
    have b2 : Below w.heap.size w X := by rw [hX]; exact b1.alloc b1.size _
    have e1 : X1.heap[gr]? = some (.cells zeroS.arr 34 (0, 0)) := by rw [hgr, hX1]; exact heap_alloc_new _ _
    refine ⟨?_, by rw [hX, hgn]; exact heap_alloc_new _ _, h.below b2, Below.kept b2 _, by omega⟩
    rw [hX, Below.heap_alloc _ _ _ (by rw [← hgn]; omega)]
    exact e1)
  have hX1' := hX1.symm
  have hX' := hX.symm
  have hgr' := hgr.symm
  have hgn' := hgn.symm
  have HD := Lib.hid hdn
  clear hX1 hX hgr hgn h dlt s1 hdn
  go_enter Try.func17, Try.ntmps17
  go_wp2_with fail
  clear hX1' hX' hgr' hgn'
  go_loopg [6, 7, 8, 9, 13] 2 (fun gg s6 s7 s8 s9 si wr => ∃ (k : Nat), k ≤ 2 ∧ gg = 2 - k ∧ si = .int .i64 k ∧ Rs B w wr d mb mp cv gr gn (rdk ds k) (bst ds k))
  case atStart => exact ⟨0, by omega, rfl, rfl, R0.out⟩
  case round =>
    obtain ⟨k, hk, hgk, rfl, hrs⟩ := hrel
    have G : Aside (gk = 2 - k) := hgk
    have RS := Lib.hid hrs
    clear hgk hrs R0
    by_cases hlt : k < 2
    · have hlt' : (k : Int) < 2 := by omega
      have dlt : decide ((k : Int) < 2) = true := decide_eq_true hlt'
      have dln : decide (k < 2) = true := decide_eq_true hlt
      obtain ⟨⟨⟨xgen, xep, xblk, xlog, xst, xpl, xrt, xcnt, xver⟩, c9⟩, hdec⟩ : ∃ r, r = decR (rdB ds k) := ⟨_, rfl⟩
      obtain ⟨bb, hbb⟩ : ∃ b, b = rdB ds k := ⟨_, rfl⟩
      have DC : Hid (∀ W v, Bytes W v bb → Calls Try.prog 43 #[v] W fun e w' => e = .returned (.tuple #[.agg #[.int .i64 xgen, .int .i64 xep, .int .i64 xblk, .int .i64 xlog, .int .i64 xst, .int .i64 xpl, .int .i64 xrt, .int .i64 xcnt, .int .i64 xver], .int .i64 c9]) ∧ Below W.heap.size W w') := Lib.hid (fun W v hv => by have := dec_any v _ W hv; rw [hbb, ← hdec] at this; exact this)
      have RD := Lib.hid (rd_at HD.out hlt RS.out)
      rw [← hbb] at RD
      obtain ⟨best, hbest⟩ : ∃ b, b = bst ds k := ⟨_, rfl⟩
      have NX : Hid (bst ds (k + 1) = pickA ds.n k ((Sup.mk xgen xep xblk xlog xst xpl xrt xcnt xver), c9) best) := Lib.hid (by rw [bst, ← hdec, ← hbest])
      rw [← hbest] at RD
      obtain ⟨bg, hbg⟩ : ∃ b, b = best.gen := ⟨_, rfl⟩
      have BG := Lib.hid hbg
      clear hdec hbb hbest hbg RS
      go_wp2_with fail
      refine RD.out.mono ?_
      rintro e w2 ⟨v, rfl, ho, h2⟩
      obtain ⟨a7, n7, c7, e7⟩ : ∃ a n c, v = .slice a n c := by obtain ⟨a, c, e, _⟩ := ho.bytes.len; exact ⟨a, _, c, e⟩
      subst e7
      have D2 := Lib.hid (DC.out _ _ ho.bytes)
      have R2 := Lib.hid h2
      clear ho h2 RD DC
      go_wp2_with fail
      refine D2.out.mono ?_
      rintro e w3 ⟨rfl, b3⟩
      obtain ⟨Y, hY⟩ : ∃ Y, Y = w3.alloc (.cells #[.int .i64 xgen, .int .i64 xep, .int .i64 xblk, .int .i64 xlog, .int .i64 xst, .int .i64 xpl, .int .i64 xrt, .int .i64 xcnt, .int .i64 xver] 34) := ⟨_, rfl⟩
      obtain ⟨g9, hg9⟩ : ∃ g, g = w3.heap.size := ⟨_, rfl⟩
      have GY : Y.heap[g9]? = some (.cells (Sup.mk xgen xep xblk xlog xst xpl xrt xcnt xver).arr 34 (0, 0)) := by rw [hY, hg9]; exact heap_alloc_new _ _
      have RY : Hid (Rs B w Y d mb mp cv gr gn (rdk ds (k + 1)) best) := Lib.hid ((R2.out.below b3).below (by rw [hY]; exact (Below.refl _ _).alloc (Nat.le_refl _) _))
      obtain ⟨y0, y1, y2, y3, y4, y5, y6, y7, y8⟩ := sup_cells GY
      have yb : Y.cell? ⟨gn, 0, none⟩ = some (.int .i64 bg) := by rw [BG.out]; exact (sup_cells RY.out.n).1
      simp only at y0 y1 y2 y3 y4 y5 y6 y7 y8
      have r0 : ∀ (dq : Nat) (os : Array Obj), (grow (redrawn Y dq) os).cell? ⟨g9, 0, none⟩ = some (.int .i64 xgen) := fun dq os => cell_regrown y0 dq os
      have r1 : ∀ (dq : Nat) (os : Array Obj), (grow (redrawn Y dq) os).cell? ⟨g9, 1, none⟩ = some (.int .i64 xep) := fun dq os => cell_regrown y1 dq os
      have r2 : ∀ (dq : Nat) (os : Array Obj), (grow (redrawn Y dq) os).cell? ⟨g9, 2, none⟩ = some (.int .i64 xblk) := fun dq os => cell_regrown y2 dq os
      have r3 : ∀ (dq : Nat) (os : Array Obj), (grow (redrawn Y dq) os).cell? ⟨g9, 3, none⟩ = some (.int .i64 xlog) := fun dq os => cell_regrown y3 dq os
      have r4 : ∀ (dq : Nat) (os : Array Obj), (grow (redrawn Y dq) os).cell? ⟨g9, 4, none⟩ = some (.int .i64 xst) := fun dq os => cell_regrown y4 dq os
      have r5 : ∀ (dq : Nat) (os : Array Obj), (grow (redrawn Y dq) os).cell? ⟨g9, 5, none⟩ = some (.int .i64 xpl) := fun dq os => cell_regrown y5 dq os
      have r6 : ∀ (dq : Nat) (os : Array Obj), (grow (redrawn Y dq) os).cell? ⟨g9, 6, none⟩ = some (.int .i64 xrt) := fun dq os => cell_regrown y6 dq os
      have r7 : ∀ (dq : Nat) (os : Array Obj), (grow (redrawn Y dq) os).cell? ⟨g9, 7, none⟩ = some (.int .i64 xcnt) := fun dq os => cell_regrown y7 dq os
      have r8 : ∀ (dq : Nat) (os : Array Obj), (grow (redrawn Y dq) os).cell? ⟨g9, 8, none⟩ = some (.int .i64 xver) := fun dq os => cell_regrown y8 dq os
      have rb : ∀ (dq : Nat) (os : Array Obj), (grow (redrawn Y dq) os).cell? ⟨gn, 0, none⟩ = some (.int .i64 bg) := fun dq os => cell_regrown yb dq os
      have xB : Hid (∀ (dq : Nat) (os : Array Obj), Below Y.heap.size Y (grow (redrawn Y dq) os)) := fun dq os => below_regrown Y dq os
      obtain ⟨nn, hnn⟩ : ∃ n, n = ds.n := ⟨_, rfl⟩
      have qB : Hid (∀ (dq : Nat) (os : Array Obj), Calls Try.prog 27 #[.pointer (some ⟨d, 0, none⟩)] (grow (redrawn Y dq) os) fun e w'' => e = .returned (.int .i64 (nn : Int)) ∧ ∃ p : Regrown, w'' = grow (redrawn Y p.d) p.os) := fun dq os => by
        refine (blocks_any (RY.out.dv.below (xB.out dq os))).mono ?_
        rintro e w' ⟨rfl, rfl⟩
        exact ⟨by rw [(rdk_same ds (k + 1) 0).2, hnn], ⟨dq, os⟩, rfl⟩
      have NX' : Hid (bst ds (k + 1) = pickA nn k ((Sup.mk xgen xep xblk xlog xst xpl xrt xcnt xver), c9) best) := by rw [hnn]; exact NX
      have GG := Lib.hid GY
      have hY' := hY.symm
      have hg9' := hg9.symm
      clear hY hg9 GY b3 D2 R2 hnn NX
      by_cases hc : c9 = 0
      case neg =>
        have fc : (c9 == 0) = false := by rw [beq_eq_false_iff_ne]; exact hc
        have NO : Hid (bst ds (k + 1) = best) := Lib.hid (by rw [NX'.out]; unfold pickA; rw [if_neg (by simp only; rintro ⟨h1, _⟩; exact hc h1)])
        clear hc
        go_wp2_with fail
        refine wp_region_quiet_below (by kernel_rfl) (by kernel_rfl) ?_
        repeat (go_big_quiet_step (first | fail))
        refine wpQuiet_nil ?_
        intro _ hw'
        obtain ⟨⟨dq, osq⟩, hw''⟩ := hw'
        subst hw''
        go_wp2_with fail
        go_roundg (2 - (k + 1))
        case measure => have := G.out; omega
        case rel => exact ⟨k + 1, by omega, rfl, by go_num, by rw [NO.out]; exact RY.out.below (xB.out dq osq)⟩
      subst hc
      cases hva : vaB (Sup.mk xgen xep xblk xlog xst xpl xrt xcnt xver) (nn : Int) with
      | false =>
        have NO : Hid (bst ds (k + 1) = best) := Lib.hid (by rw [NX'.out]; unfold pickA; rw [if_neg (by simp only; rintro ⟨_, h1, _⟩; rw [hva] at h1; exact Bool.false_ne_true h1)])
        have qV : Hid (∀ (dq : Nat) (os : Array Obj), Calls Try.prog 26 #[.agg #[.int .i64 xgen, .int .i64 xep, .int .i64 xblk, .int .i64 xlog, .int .i64 xst, .int .i64 xpl, .int .i64 xrt, .int .i64 xcnt, .int .i64 xver], .int .i64 (nn : Int)] (grow (redrawn Y dq) os) fun e w'' => e = .returned (.bool false) ∧ ∃ p : Regrown, w'' = grow (redrawn Y p.d) p.os) := fun dq os => Calls.regrown_of (by have := valid_any (Sup.mk xgen xep xblk xlog xst xpl xrt xcnt xver) (nn : Int) (grow (redrawn Y dq) os); rw [hva] at this; exact this)
        clear hva
        go_wp2_with fail
        refine wp_region_quiet_below (by kernel_rfl) (by kernel_rfl) ?_
        repeat (go_big_quiet_step (first | with_reducible exact qB.out _ _ | with_reducible exact qV.out _ _))
        refine wpQuiet_nil ?_
        intro _ hw'
        obtain ⟨⟨dq, osq⟩, hw''⟩ := hw'
        subst hw''
        go_wp2_with fail
        go_roundg (2 - (k + 1))
        case measure => have := G.out; omega
        case rel => exact ⟨k + 1, by omega, rfl, by go_num, by rw [NO.out]; exact RY.out.below (xB.out dq osq)⟩
      | true =>
        have qV : Hid (∀ (dq : Nat) (os : Array Obj), Calls Try.prog 26 #[.agg #[.int .i64 xgen, .int .i64 xep, .int .i64 xblk, .int .i64 xlog, .int .i64 xst, .int .i64 xpl, .int .i64 xrt, .int .i64 xcnt, .int .i64 xver], .int .i64 (nn : Int)] (grow (redrawn Y dq) os) fun e w'' => e = .returned (.bool true) ∧ ∃ p : Regrown, w'' = grow (redrawn Y p.d) p.os) := fun dq os => Calls.regrown_of (by have := valid_any (Sup.mk xgen xep xblk xlog xst xpl xrt xcnt xver) (nn : Int) (grow (redrawn Y dq) os); rw [hva] at this; exact this)
        have qH : Hid (∀ (dq : Nat) (os : Array Obj), Calls Try.prog 29 #[.agg #[.int .i64 xgen, .int .i64 xep, .int .i64 xblk, .int .i64 xlog, .int .i64 xst, .int .i64 xpl, .int .i64 xrt, .int .i64 xcnt, .int .i64 xver]] (grow (redrawn Y dq) os) fun e w'' => e = .returned (.int .i64 (xgen % 2)) ∧ ∃ p : Regrown, w'' = grow (redrawn Y p.d) p.os) := fun dq os => Calls.regrown_of (home_any (Sup.mk xgen xep xblk xlog xst xpl xrt xcnt xver) (grow (redrawn Y dq) os) (by have := (va_gen hva).1; simp only at this; show 0 ≤ xgen; omega))
        by_cases hh : xgen % 2 = (k : Int)
        case neg =>
          have fh : (xgen % 2 == (k : Int)) = false := by rw [beq_eq_false_iff_ne]; exact hh
          have NO : Hid (bst ds (k + 1) = best) := Lib.hid (by rw [NX'.out]; unfold pickA; rw [if_neg (by simp only; rintro ⟨_, _, h1, _⟩; exact hh h1)])
          clear hva hh
          go_wp2_with fail
          refine wp_region_quiet_below (by kernel_rfl) (by kernel_rfl) ?_
          repeat (go_big_quiet_step (first | with_reducible exact qB.out _ _ | with_reducible exact qV.out _ _ | with_reducible exact qH.out _ _))
          refine wpQuiet_nil ?_
          intro _ hw'
          obtain ⟨⟨dq, osq⟩, hw''⟩ := hw'
          subst hw''
          go_wp2_with fail
          go_roundg (2 - (k + 1))
          case measure => have := G.out; omega
          case rel => exact ⟨k + 1, by omega, rfl, by go_num, by rw [NO.out]; exact RY.out.below (xB.out dq osq)⟩
        have fh : (xgen % 2 == (k : Int)) = true := by rw [beq_iff_eq]; exact hh
        by_cases hg : xgen > bg
        case neg =>
          have fg : decide (xgen > bg) = false := decide_eq_false hg
          have NO : Hid (bst ds (k + 1) = best) := Lib.hid (by rw [NX'.out]; unfold pickA; rw [if_neg (by simp only; rintro ⟨_, _, _, h1⟩; rw [← BG.out] at h1; exact hg h1)])
          clear hva hh hg
          go_wp2_with fail
          refine wp_region_quiet_below (by kernel_rfl) (by kernel_rfl) ?_
          repeat (go_big_quiet_step (first | with_reducible exact qB.out _ _ | with_reducible exact qV.out _ _ | with_reducible exact qH.out _ _))
          refine wpQuiet_nil ?_
          intro _ hw'
          obtain ⟨⟨dq, osq⟩, hw''⟩ := hw'
          subst hw''
          go_wp2_with fail
          go_roundg (2 - (k + 1))
          case measure => have := G.out; omega
          case rel => exact ⟨k + 1, by omega, rfl, by go_num, by rw [NO.out]; exact RY.out.below (xB.out dq osq)⟩
        have fg : decide (xgen > bg) = true := decide_eq_true hg
        have YES : Hid (bst ds (k + 1) = (Sup.mk xgen xep xblk xlog xst xpl xrt xcnt xver)) := Lib.hid (by rw [NX'.out]; unfold pickA; rw [if_pos ⟨rfl, hva, hh, by rw [← BG.out]; exact hg⟩])
        clear hva hh hg
        go_wp2_with fail
        refine wp_region_quiet_below (by kernel_rfl) (by kernel_rfl) ?_
        repeat (go_big_quiet_step (first | with_reducible exact qB.out _ _ | with_reducible exact qV.out _ _ | with_reducible exact qH.out _ _))
        refine wpQuiet_nil ?_
        intro _ hw'
        obtain ⟨⟨dq, osq⟩, hw''⟩ := hw'
        subst hw''
        have R5 := Lib.hid (RY.out.below (xB.out dq osq))
        have G5 : Hid ((grow (redrawn Y dq) osq).heap[g9]? = some (.cells (Sup.mk xgen xep xblk xlog xst xpl xrt xcnt xver).arr 34 (0, 0))) := Lib.hid (((xB.out dq osq).block g9 (lt_of_heap GG.out)).trans GG.out)
        obtain ⟨w5, hw5⟩ : ∃ W, W = grow (redrawn Y dq) osq := ⟨_, rfl⟩
        rw [← hw5] at R5 G5 ⊢
        clear hw5 qB qV qH r0 r1 r2 r3 r4 r5 r6 r7 r8 rb y0 y1 y2 y3 y4 y5 y6 y7 y8 yb
        go_wp2_with (first | (refine wpList_load_row rfl 34 (.tmp 9) rfl g9 rfl 34 (Sup.mk xgen xep xblk xlog xst xpl xrt xcnt xver).arr (0, 0) _ G5.out Try.underlying34 rfl size_super ?_) | (refine wpList_store_row rfl 34 (.tmp 5) (.tmp 52) rfl gn (Sup.mk xgen xep xblk xlog xst xpl xrt xcnt xver).arr rfl rfl 34 best.arr R5.out.n size_super rfl (arr_one _) ?_))
        go_roundg (2 - (k + 1))
        case measure => have := G.out; omega
        case rel => exact ⟨k + 1, by omega, rfl, by go_num, by rw [YES.out]; exact R5.out.best _⟩
    · have ek : k = 2 := by omega
      subst ek
      have hge : ¬ ((2 : Nat) : Int) < 2 := by omega
      clear hlt hk
      obtain ⟨⟨xgen, xep, xblk, xlog, xst, xpl, xrt, xcnt, xver⟩, hb⟩ : ∃ b, b = bst ds 2 := ⟨_, rfl⟩
      rw [← hb] at RS
      have HB := Lib.hid hb
      have GE : Hid (0 ≤ xgen) := Lib.hid (by have := bst_gen ds 2; rw [← hb] at this; exact this)
      obtain ⟨y0, y1, y2, y3, y4, y5, y6, y7, y8⟩ := sup_cells RS.out.n
      simp only at y0 y1 y2 y3 y4 y5 y6 y7 y8
      clear hb
      by_cases hz : xgen = 0
      · have ez : (xgen == 0) = true := by rw [beq_iff_eq]; exact hz
        have HE : Hid (RR = (zeroS, 0, 5)) := Lib.hid (by rw [HR.out]; unfold readU; rw [← HB.out, if_pos hz])
        clear HB hz HR GE
        go_wp2_with (first | (refine wpList_store_row rfl 34 (.tmp 2) (.tmp 57) rfl gr zeroS.arr rfl rfl 34 zeroS.arr RS.out.r size_super rfl (arr_one _) ?_))
        rw [HE.out]
        obtain ⟨q1, q2, q3⟩ := RS.out.fill zeroS
        exact bodyPost_ret (results_cell2 rfl _ _ ⟨gr, 0, none⟩ (.agg zeroS.arr) rfl (load_super _ _ zeroS q1)) rfl ⟨rfl, q2, q3⟩
      · have ez : (xgen == 0) = false := by rw [beq_eq_false_iff_ne]; exact hz
        have HE : Hid (RR = ((Sup.mk xgen xep xblk xlog xst xpl xrt xcnt xver), xgen % 2, 0)) := Lib.hid (by rw [HR.out]; unfold readU; rw [← HB.out, if_neg hz])
        clear HB hz HR
        go_wp2_with fail
        obtain ⟨L, hL⟩ : ∃ L, L = (Sup.mk xgen xep xblk xlog xst xpl xrt xcnt xver).arr.toList := ⟨_, rfl⟩
        have hu := Try.underlying34
        have hi : (Try.prog.info? 34).map (·.size) = some L.length := by rw [hL]; exact size_super
        have hl9 : L.length = 9 := by rw [hL]; rfl
        have h1L : ∀ v ∈ L, v.oneCell' = true := by rw [hL]; intro v hv; simp only [Sup.arr, List.mem_cons, List.not_mem_nil, or_false] at hv; rcases hv with rfl | rfl | rfl | rfl | rfl | rfl | rfl | rfl | rfl <;> rfl
        have Z0 := Lib.hid RS.out.zs.drew
        have HO : Hid (∀ W, Zs B w W d mb mp cv gr gn (rdk ds 2) (Sup.mk xgen xep xblk xlog xst xpl xrt xcnt xver) → Calls Try.prog 29 #[.agg L.toArray] W fun e w' => e = .returned (.int .i64 (xgen % 2)) ∧ Zs B w w' d mb mp cv gr gn (rdk ds 2) (Sup.mk xgen xep xblk xlog xst xpl xrt xcnt xver) ∧ Below W.heap.size W w') := Lib.hid (fun W h => by
          have e : L.toArray = (Sup.mk xgen xep xblk xlog xst xpl xrt xcnt xver).arr := by rw [hL]
          rw [e]
          exact (home_any (Sup.mk xgen xep xblk xlog xst xpl xrt xcnt xver) W GE.out).mono (fun e w' q => ⟨q.1, h.below q.2, q.2⟩))
        have RG : Hid (∀ W, Zs B w W d mb mp cv gr gn (rdk ds 2) (Sup.mk xgen xep xblk xlog xst xpl xrt xcnt xver) → W.rangeAt gn 0 L ∧ W.there gr 0 9) := Lib.hid (fun W h => by rw [hL]; exact h.range)
        have ST : Hid (∀ W, Zs B w W d mb mp cv gr gn (rdk ds 2) (Sup.mk xgen xep xblk xlog xst xpl xrt xcnt xver) → Zs B w (W.setCells gr 0 L) d mb mp cv gr gn (rdk ds 2) (Sup.mk xgen xep xblk xlog xst xpl xrt xcnt xver) ∧ (W.setCells gr 0 L).heap[gr]? = some (.cells (Sup.mk xgen xep xblk xlog xst xpl xrt xcnt xver).arr 34 (0, 0))) := Lib.hid (fun W h => by rw [hL]; exact h.store)
        clear hL y0 y1 y2 y3 y4 y5 y6 y7 y8 RS GE
        have ONE : L.toArray.all (·.oneCell') = true := by rw [Array.all_eq_true_iff_forall_mem]; intro v hv; exact h1L v (by simpa using hv)
        have PU : Hid (∀ W, Zs B w W d mb mp cv gr gn (rdk ds 2) (Sup.mk xgen xep xblk xlog xst xpl xrt xcnt xver) → (Instr.storeAt 34 (.pointer (some ⟨gr, 0, none⟩)) (.agg L.toArray)).run Try.prog W = .ok () (W.setCells gr 0 L)) := Lib.hid (fun W h => by
          have q := run_storeAt_mid (P := Try.prog) W gr 0 34 L.toArray (by rw [List.size_toArray, hl9]; exact (RG.out W h).2) (by rw [List.size_toArray]; exact hi) ONE
          simpa using q)
        have A0 : Hid (∀ W, Zs B w W d mb mp cv gr gn (rdk ds 2) (Sup.mk xgen xep xblk xlog xst xpl xrt xcnt xver) → W.rangeAt gn 0 L) := Lib.hid (fun W h => (RG.out W h).1)
        clear hl9 h1L ONE RG
        refine wp_region_held_drew (S := fun W => Zs B w W d mb mp cv gr gn (rdk ds 2) (Sup.mk xgen xep xblk xlog xst xpl xrt xcnt xver)) (by kernel_rfl) Z0.out (fun hHeld => ?_)
        refine takeH (i := 0) (t := 58) rfl rfl (by kernel_rfl) (by kernel_rfl) (by kernel_rfl) (fun _ _ _ h => h) (yieldsIf_load_mid (by rfl) _ _ rfl gn 0 rfl L _ (fun W h => A0.out W h) hu rfl hi) hHeld ?_
        simp only [Act.put, List.setIfInBounds_toArray, List.set_cons_zero, List.set_cons_succ]
        refine takeH (i := 1) (t := 59) rfl rfl (by kernel_rfl) (by kernel_rfl) (by kernel_rfl) (fun _ _ _ h => h) (yieldsIf_load_mid (by rfl) _ _ rfl gn 0 rfl L _ (fun W h => A0.out W h) hu rfl hi) hHeld ?_
        simp only [Act.put, List.setIfInBounds_toArray, List.set_cons_zero, List.set_cons_succ]
        refine wpAnyH_ready (rs := [2]) (by kernel_rfl) (by simp) ?_
        refine AllReadyH.cons rfl (fun K hK => ?_) AllReadyH.nil
        refine step_home rfl (.tmp 59) _ rfl L.toArray wr.drew rfl _ _ (HO.out _ Z0.out) 60 rfl (fun w9 h9 => ?_)
        simp only [Act.put, List.setIfInBounds_toArray, List.set_cons_zero, List.set_cons_succ]
        refine hK.out _ _ h9.1 (fun _ => ?_)
        refine wpAnyH_ready (rs := [3]) (by kernel_rfl) (by simp) ?_
        refine AllReadyH.cons rfl (fun K hK2 => ?_) AllReadyH.nil
        refine step_put rfl 34 (.tmp 2) (.tmp 58) rfl ⟨gr, 0, none⟩ (.agg L.toArray) rfl rfl (PU.out w9 h9.1) rfl ?_
        have Z9 := Lib.hid (ST.out w9 h9.1)
        refine hK2.out _ _ Z9.out.1 (fun hH3 => ?_)
        refine takeH (i := 4) (t := 3) (v := .int .i64 (xgen % 2)) rfl rfl (by kernel_rfl) (by kernel_rfl) (by kernel_rfl) (fun _ _ _ h => h) (Or.inl ⟨by rfl, fun w hSw => by first | rfl | go_simp⟩) hH3 ?_
        simp only [Act.put, List.setIfInBounds_toArray, List.set_cons_zero, List.set_cons_succ]
        refine takeH (i := 5) (t := 4) (v := .int .i64 0) rfl rfl (by kernel_rfl) (by kernel_rfl) (by kernel_rfl) (fun _ _ _ h => h) (Or.inl ⟨by rfl, fun w hSw => by first | rfl | go_simp⟩) hH3 ?_
        simp only [Act.put, List.setIfInBounds_toArray, List.set_cons_zero, List.set_cons_succ]
        refine wpAnyH_done (by kernel_rfl) ?_ _
        obtain ⟨W5, hW5⟩ : ∃ W, W = w9.setCells gr 0 L := ⟨_, rfl⟩
        rw [← hW5] at Z9 ⊢
        clear hW5 hK hK2 h9 hH3 hHeld HO ST PU A0 hu hi Z0
        go_wp2_with fail
        rw [HE.out]
        exact bodyPost_ret (results_cell2 rfl _ _ ⟨gr, 0, none⟩ (.agg (Sup.mk xgen xep xblk xlog xst xpl xrt xcnt xver).arr) rfl (load_super _ _ (Sup.mk xgen xep xblk xlog xst xpl xrt xcnt xver) Z9.out.2)) rfl ⟨rfl, Z9.out.1.dv, Z9.out.1.kp⟩

end Go.Proofs.Ytbdlebengmbooaa
