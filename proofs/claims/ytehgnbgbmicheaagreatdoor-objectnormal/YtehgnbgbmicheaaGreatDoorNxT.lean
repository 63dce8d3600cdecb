/-
  sameObject of unlike objects.
-/
import Derived.Test.YtehgnbgbmicheaaGreatDoorNxS
namespace Go.Proofs.YtehgnbgbmicheaaGreatDoor
open Go.RowKit Go.Sort
namespace Nx
set_option maxHeartbeats 3000000 in
set_option maxRecDepth 100000 in
theorem sameObject_no (o o' : Ob) (vl vp vl' vp' : Value) (w : World) (ho : ObV w vl vp o) (ho' : ObV w vl' vp' o') (hne : o ≠ o') :
    Calls Tryz.prog 8 #[o.val vl vp, o'.val vl' vp'] w fun e w' => e = .returned (.bool false) ∧ Below w.heap.size w w' := by
  have U := Lib.hid ho
  have U' := Lib.hid ho'
  obtain ⟨la, lc, rfl, hlc, hlm⟩ := ho.l.len
  obtain ⟨pa, pc, rfl, hpc, hpm⟩ := ho.p.len
  obtain ⟨la', lc', rfl, hlc', hlm'⟩ := ho'.l.len
  obtain ⟨pa', pc', rfl, hpc', hpm'⟩ := ho'.p.len
  unfold maxLen at hlm hpm hlm' hpm'
  obtain ⟨op, on, ols, opr, odl, ops, ov⟩ := o
  obtain ⟨op', on', ols', opr', odl', ops', ov'⟩ := o'
  simp only at hlc hpc hlc' hpc' U U'
  obtain ⟨ln, hln⟩ : ∃ ln, ln = ols.length := ⟨_, rfl⟩
  obtain ⟨pn, hpn⟩ : ∃ pn, pn = ops.length := ⟨_, rfl⟩
  obtain ⟨ln', hln'⟩ : ∃ ln, ln = ols'.length := ⟨_, rfl⟩
  obtain ⟨pn', hpn'⟩ : ∃ pn, pn = ops'.length := ⟨_, rfl⟩
  unfold Ob.val
  simp only
  rw [← hln] at hlc U ⊢
  rw [← hpn] at hpc U ⊢
  rw [← hln'] at hlc' U' ⊢
  rw [← hpn'] at hpc' U' ⊢
  have HN := Lib.hid (And.intro (And.intro hln hpn) (And.intro hln' hpn'))
  have NE := Lib.hid hne
  clear ho ho' hln hpn hln' hpn' hne
  obtain ⟨X1, hX1⟩ : ∃ X1, X1 = w.alloc (.cells #[.string op, .string on, .slice la ln lc, .int .i64 opr, .int .i64 odl, .slice pa pn pc, .int .i64 ov] 25) := ⟨_, rfl⟩
  obtain ⟨bB, hbB⟩ : ∃ bB, bB = X1.heap.size := ⟨_, rfl⟩
  obtain ⟨X2, hX2⟩ : ∃ X2, X2 = X1.alloc (.cells #[.string op', .string on', .slice la' ln' lc', .int .i64 opr', .int .i64 odl', .slice pa' pn' pc', .int .i64 ov'] 25) := ⟨_, rfl⟩
  have A1 : Below w.heap.size w X1 := by rw [hX1]; exact (Below.refl _ w).alloc (Nat.le_refl _) _
  have A2 : Below X1.heap.size X1 X2 := by rw [hX2]; exact (Below.refl _ _).alloc (Nat.le_refl _) _
  have AX := Lib.hid (A1.trans (A2.mono A1.size))
  have CA : Hid (∀ i y, #[Value.string op, .string on, .slice la ln lc, .int .i64 opr, .int .i64 odl, .slice pa pn pc, .int .i64 ov][i]? = some y → X2.cell? ⟨w.heap.size, i, none⟩ = some y) := Lib.hid fun i y h => by
    have q : X1.cell? ⟨w.heap.size, i, none⟩ = some y := by rw [hX1, World.cell?_alloc_new]; exact h
    exact (A2.cell (block_lt_of_cell q)).trans q
  have CB : Hid (∀ i y, #[Value.string op', .string on', .slice la' ln' lc', .int .i64 opr', .int .i64 odl', .slice pa' pn' pc', .int .i64 ov'][i]? = some y → X2.cell? ⟨bB, i, none⟩ = some y) := Lib.hid fun i y h => by
    rw [hX2, hbB, World.cell?_alloc_new]; exact h
  have hX1' := hX1.symm
  have hX2' := hX2.symm
  have hbB' := hbB.symm
  clear hX1 hX2 A1 A2 hbB
  have k0 := CA.out 0 _ rfl
  have k1 := CA.out 1 _ rfl
  have k2 := CA.out 2 _ rfl
  have k3 := CA.out 3 _ rfl
  have k4 := CA.out 4 _ rfl
  have k5 := CA.out 5 _ rfl
  have k6 := CA.out 6 _ rfl
  have m0 := CB.out 0 _ rfl
  have m1 := CB.out 1 _ rfl
  have m2 := CB.out 2 _ rfl
  have m3 := CB.out 3 _ rfl
  have m4 := CB.out 4 _ rfl
  have m5 := CB.out 5 _ rfl
  have m6 := CB.out 6 _ rfl
  by_cases h_op : op = op'
  rotate_left
  · have g1 := txt_ne h_op
    have g2 := txt_bne h_op
    clear h_op
    go_enter Tryz.func8, Tryz.ntmps8
    go_wp2_with fail
    go_ret
    exact ⟨rfl, AX.out⟩
  subst h_op
  have q_op : (op.toList == op.toList) = true := by simp
  by_cases h_on : on = on'
  rotate_left
  · have g1 := txt_ne h_on
    have g2 := txt_bne h_on
    clear h_on
    go_enter Tryz.func8, Tryz.ntmps8
    go_wp2_with fail
    go_ret
    exact ⟨rfl, AX.out⟩
  subst h_on
  have q_on : (on.toList == on.toList) = true := by simp
  by_cases h_opr : opr = opr'
  rotate_left
  · have g1 := int_ne h_opr
    have g2 := int_bne h_opr
    clear h_opr
    go_enter Tryz.func8, Tryz.ntmps8
    go_wp2_with fail
    go_ret
    exact ⟨rfl, AX.out⟩
  subst h_opr
  by_cases h_odl : odl = odl'
  rotate_left
  · have g1 := int_ne h_odl
    have g2 := int_bne h_odl
    clear h_odl
    go_enter Tryz.func8, Tryz.ntmps8
    go_wp2_with fail
    go_ret
    exact ⟨rfl, AX.out⟩
  subst h_odl
  by_cases h_ov : ov = ov'
  rotate_left
  · have g1 := int_ne h_ov
    have g2 := int_bne h_ov
    clear h_ov
    go_enter Tryz.func8, Tryz.ntmps8
    go_wp2_with fail
    go_ret
    exact ⟨rfl, AX.out⟩
  subst h_ov
  by_cases h_ln : ln = ln'
  rotate_left
  · have g1 : ((ln : Int) == (ln' : Int)) = false := int_ne (by omega)
    have g2 : ((ln : Int) != (ln' : Int)) = true := int_bne (by omega)
    clear h_ln
    go_enter Tryz.func8, Tryz.ntmps8
    go_wp2_with fail
    go_ret
    exact ⟨rfl, AX.out⟩
  subst h_ln
  by_cases h_pn : pn = pn'
  rotate_left
  · have g1 : ((pn : Int) == (pn' : Int)) = false := int_ne (by omega)
    have g2 : ((pn : Int) != (pn' : Int)) = true := int_bne (by omega)
    clear h_pn
    go_enter Tryz.func8, Tryz.ntmps8
    go_wp2_with fail
    go_ret
    exact ⟨rfl, AX.out⟩
  subst h_pn
  go_enter Tryz.func8, Tryz.ntmps8
  go_wp2_with fail
  clear k0 k1 k2 k3 k4 k5 k6 m0 m1 m2 m3 m4 m5 m6 hX1' hX2' hbB' q_op q_on
  go_loopg [5] ln (fun g si wr => ∃ (k : Nat), k ≤ ln ∧ g = ln - k ∧ si = .int .i64 k ∧ Hid (Below X2.heap.size X2 wr ∧ ols.take k = ols'.take k))
  case atStart => exact ⟨0, Nat.zero_le _, rfl, rfl, Lib.hid ⟨Below.refl _ _, rfl⟩⟩
  case round =>
    obtain ⟨k, hk, hg, rfl, S⟩ := hrel
    have GK := Lib.hid hg
    have k2 := (S.out.1.cell (block_lt_of_cell (CA.out 2 _ rfl))).trans (CA.out 2 _ rfl)
    have m2 := (S.out.1.cell (block_lt_of_cell (CB.out 2 _ rfl))).trans (CB.out 2 _ rfl)
    have FW : Hid (Below w.heap.size w wr) := Lib.hid (AX.out.trans (S.out.1.mono AX.out.size))
    clear hg
    by_cases hlt : k < ln
    · have hlt' : (k : Int) < (ln : Int) := by omega
      obtain ⟨b, off, rfl, pc0⟩ := (U.out.l.below FW.out).at k (by rw [← HN.out.1.1]; exact hlt)
      obtain ⟨b', off', rfl, pc1⟩ := (U'.out.l.below FW.out).at k (by rw [← HN.out.2.1]; exact hlt)
      simp only at pc0 pc1
      obtain ⟨⟨xk, xv⟩, hx⟩ : ∃ x, x = ols.getD k kLb.z := ⟨_, rfl⟩
      obtain ⟨⟨yk, yv⟩, hy⟩ : ∃ x, x = ols'.getD k kLb.z := ⟨_, rfl⟩
      rw [← hx] at pc0
      rw [← hy] at pc1
      have r0 := reg (show wr.cell? ⟨b, off + k * 2, none⟩ = some (.string xk) from pc0 0 _ rfl)
      have r1 := reg (show wr.cell? ⟨b, off + k * 2 + 1, none⟩ = some (.string xv) from pc0 1 _ rfl)
      have s0 := reg (show wr.cell? ⟨b', off' + k * 2, none⟩ = some (.string yk) from pc1 0 _ rfl)
      have s1 := reg (show wr.cell? ⟨b', off' + k * 2 + 1, none⟩ = some (.string yv) from pc1 1 _ rfl)
      have t0 := reg k2
      have t1 := reg m2
      have HX := Lib.hid (And.intro hx hy)
      have xB : Hid (∀ (dq : Nat) (os : Array Obj), Below wr.heap.size wr (grow (redrawn wr dq) os)) := Lib.hid fun dq os => below_regrown wr dq os
      clear hx hy pc0 pc1
      by_cases e1 : xk = yk
      · subst e1
        have g0 : (xk.toList == xk.toList) = true := by simp
        by_cases e2 : xv = yv
        · subst e2
          have g1 : (xv.toList == xv.toList) = true := by simp
          go_wp2_with fail
          refine wp_region_quiet_below (by kernel_rfl) (by kernel_rfl) ?_
          repeat (go_big_quiet_step (fail))
          refine wpQuiet_nil ?_
          intro _ hw'
          obtain ⟨⟨dq, osq⟩, hw''⟩ := hw'
          subst hw''
          have xx := Lib.hid (S.out.1.trans ((xB.out dq osq).mono S.out.1.size))
          have TK : Hid (ols.take (k + 1) = ols'.take (k + 1)) := Lib.hid (take_more S.out.2 (by rw [← HN.out.1.1]; exact hlt) (by rw [← HN.out.2.1]; exact hlt) (by rw [← HX.out.1, ← HX.out.2]))
          clear r0 r1 s0 s1 t0 t1 xB k2 m2
          obtain ⟨W, hW⟩ : ∃ W, W = grow (redrawn wr dq) osq := ⟨_, rfl⟩
          rw [← hW] at xx ⊢
          clear hW
          go_wp2_with fail
          go_roundg (ln - (k + 1))
          case measure => have := GK.out; omega
          case rel => exact ⟨k + 1, by omega, rfl, by go_num, Lib.hid ⟨xx.out, TK.out⟩⟩
        · have g1 := txt_ne e2
          clear e2
          go_wp2_with fail
          refine wp_region_quiet_below (by kernel_rfl) (by kernel_rfl) ?_
          repeat (go_big_quiet_step (fail))
          refine wpQuiet_nil ?_
          intro _ hw'
          obtain ⟨⟨dq, osq⟩, hw''⟩ := hw'
          subst hw''
          have xx := Lib.hid (FW.out.trans ((xB.out dq osq).mono FW.out.size))
          clear r0 r1 s0 s1 t0 t1 xB k2 m2
          go_wp2_with fail
          go_ret
          exact ⟨rfl, xx.out⟩
      · have g1 := txt_ne e1
        clear e1
        go_wp2_with fail
        refine wp_region_quiet_below (by kernel_rfl) (by kernel_rfl) ?_
        repeat (go_big_quiet_step (fail))
        refine wpQuiet_nil ?_
        intro _ hw'
        obtain ⟨⟨dq, osq⟩, hw''⟩ := hw'
        subst hw''
        have xx := Lib.hid (FW.out.trans ((xB.out dq osq).mono FW.out.size))
        clear r0 r1 s0 s1 t0 t1 xB k2 m2
        go_wp2_with fail
        go_ret
        exact ⟨rfl, xx.out⟩
    · have EL : Hid (ols = ols') := Lib.hid (take_ext (by have q := S.out.2; rw [show k = ln by omega] at q; exact q) HN.out.1.1.symm HN.out.2.1.symm)
      have R1 := Lib.hid S.out.1
      have hlt' : ¬ (k : Int) < (ln : Int) := by omega
      go_wp2_with fail
      clear k2 m2 FW S hlt' hlt
      go_loopg [6] pn (fun g si wr => ∃ (k : Nat), k ≤ pn ∧ g = pn - k ∧ si = .int .i64 k ∧ Hid (Below X2.heap.size X2 wr ∧ ops.take k = ops'.take k))
      case atStart => exact ⟨0, Nat.zero_le _, rfl, rfl, Lib.hid ⟨R1.out, rfl⟩⟩
      case round =>
        clear R1
        obtain ⟨k, hk, hg, rfl, S⟩ := hrel
        have GK := Lib.hid hg
        have k5 := (S.out.1.cell (block_lt_of_cell (CA.out 5 _ rfl))).trans (CA.out 5 _ rfl)
        have m5 := (S.out.1.cell (block_lt_of_cell (CB.out 5 _ rfl))).trans (CB.out 5 _ rfl)
        have FW : Hid (Below w.heap.size w wr) := Lib.hid (AX.out.trans (S.out.1.mono AX.out.size))
        clear hg
        by_cases hlt : k < pn
        · have hlt' : (k : Int) < (pn : Int) := by omega
          obtain ⟨b, off, ra, rb, rfl, p0, p1, p2, ha, hb1⟩ := (U.out.p.below FW.out).at k (by rw [← HN.out.1.2]; exact hlt)
          obtain ⟨b', off', ra', rb', rfl, q0, q1, q2, ha', hb1'⟩ := (U'.out.p.below FW.out).at k (by rw [← HN.out.2.2]; exact hlt)
          simp only at p0 p1 p2 ha hb1 q0 q1 q2 ha' hb1'
          obtain ⟨⟨xn, xr, xl⟩, hx⟩ : ∃ x, x = ops.getD k ⟨⟨#[]⟩, [], []⟩ := ⟨_, rfl⟩
          obtain ⟨⟨yn, yr, yl⟩, hy⟩ : ∃ x, x = ops'.getD k ⟨⟨#[]⟩, [], []⟩ := ⟨_, rfl⟩
          rw [← hx] at p0 ha hb1
          rw [← hy] at q0 ha' hb1'
          obtain ⟨ra1, ra2, ra3⟩ := ra
          obtain ⟨rb1, rb2, rb3⟩ := rb
          obtain ⟨sa1, sa2, sa3⟩ := ra'
          obtain ⟨sb1, sb2, sb3⟩ := rb'
          unfold Sl.v at p1 p2 q1 q2 ha hb1 ha' hb1'
          simp only at p0 p1 p2 q0 q1 q2 ha hb1 ha' hb1'
          have r0 := reg p0
          have r1 := reg p1
          have r2 := reg p2
          have s0 := reg q0
          have s1 := reg q1
          have s2 := reg q2
          have t0 := reg k5
          have t1 := reg m5
          have HX := Lib.hid (And.intro hx hy)
          have xB : Hid (∀ (dq : Nat) (os : Array Obj), Below wr.heap.size wr (grow (redrawn wr dq) os)) := Lib.hid fun dq os => below_regrown wr dq os
          obtain ⟨c1, hc1⟩ := bool_of (xr = yr)
          obtain ⟨c2, hc2⟩ := bool_of (xl = yl)
          have xQ : Hid (∀ u u' c d os, (u = .slice ra1 ra2 ra3 ∧ u' = .slice sa1 sa2 sa3 ∧ c = c1) ∨ (u = .slice rb1 rb2 rb3 ∧ u' = .slice sb1 sb2 sb3 ∧ c = c2) → Calls Tryz.prog 20 #[u, u'] (grow (redrawn wr d) os) fun e w'' => e = .returned (.bool c) ∧ ∃ p : Regrown, w'' = grow (redrawn wr p.d) p.os) := Lib.hid fun u u' c d os h => by
            rcases h with ⟨rfl, rfl, rfl⟩ | ⟨rfl, rfl, rfl⟩
            · exact Calls.regrown_of (sameAmounts_c _ _ xr yr _ hc1 _ (ha.below (xB.out d os)) (ha'.below (xB.out d os)))
            · exact Calls.regrown_of (sameAmounts_c _ _ xl yl _ hc2 _ (hb1.below (xB.out d os)) (hb1'.below (xB.out d os)))
          have HC := Lib.hid (And.intro hc1 hc2)
          clear hx hy p0 p1 p2 q0 q1 q2 ha hb1 ha' hb1' hc1 hc2
          by_cases e1 : xn = yn
          · subst e1
            have g0 : (xn.toList == xn.toList) = true := by simp
            cases c1 with
            | true =>
              cases c2 with
              | true =>
                have EQ : Hid (xr = yr ∧ xl = yl) := Lib.hid ⟨HC.out.1.1 rfl, HC.out.2.1 rfl⟩
                go_wp2_with fail
                refine wp_region_quiet_below (by kernel_rfl) (by kernel_rfl) ?_
                repeat (go_big_quiet_step (refine xQ.out _ _ _ _ _ (by first | exact Or.inl ⟨rfl, rfl, rfl⟩ | exact Or.inr ⟨rfl, rfl, rfl⟩)))
                refine wpQuiet_nil ?_
                intro _ hw'
                obtain ⟨⟨dq, osq⟩, hw''⟩ := hw'
                subst hw''
                have xx := Lib.hid (S.out.1.trans ((xB.out dq osq).mono S.out.1.size))
                have TK : Hid (ops.take (k + 1) = ops'.take (k + 1)) := Lib.hid (take_more (z := ⟨⟨#[]⟩, [], []⟩) S.out.2 (by rw [← HN.out.1.2]; exact hlt) (by rw [← HN.out.2.2]; exact hlt) (by rw [← HX.out.1, ← HX.out.2, EQ.out.1, EQ.out.2]))
                clear r0 r1 r2 s0 s1 s2 t0 t1 xB xQ k5 m5
                obtain ⟨W, hW⟩ : ∃ W, W = grow (redrawn wr dq) osq := ⟨_, rfl⟩
                rw [← hW] at xx ⊢
                clear hW
                go_wp2_with fail
                go_roundg (pn - (k + 1))
                case measure => have := GK.out; omega
                case rel => exact ⟨k + 1, by omega, rfl, by go_num, Lib.hid ⟨xx.out, TK.out⟩⟩
              | false =>
                go_wp2_with fail
                refine wp_region_quiet_below (by kernel_rfl) (by kernel_rfl) ?_
                repeat (go_big_quiet_step (refine xQ.out _ _ _ _ _ (by first | exact Or.inl ⟨rfl, rfl, rfl⟩ | exact Or.inr ⟨rfl, rfl, rfl⟩)))
                refine wpQuiet_nil ?_
                intro _ hw'
                obtain ⟨⟨dq, osq⟩, hw''⟩ := hw'
                subst hw''
                have xx := Lib.hid (FW.out.trans ((xB.out dq osq).mono FW.out.size))
                clear r0 r1 r2 s0 s1 s2 t0 t1 xB xQ k5 m5
                go_wp2_with fail
                go_ret
                exact ⟨rfl, xx.out⟩
            | false =>
              go_wp2_with fail
              refine wp_region_quiet_below (by kernel_rfl) (by kernel_rfl) ?_
              repeat (go_big_quiet_step (refine xQ.out _ _ _ _ _ (by first | exact Or.inl ⟨rfl, rfl, rfl⟩ | exact Or.inr ⟨rfl, rfl, rfl⟩)))
              refine wpQuiet_nil ?_
              intro _ hw'
              obtain ⟨⟨dq, osq⟩, hw''⟩ := hw'
              subst hw''
              have xx := Lib.hid (FW.out.trans ((xB.out dq osq).mono FW.out.size))
              clear r0 r1 r2 s0 s1 s2 t0 t1 xB xQ k5 m5
              go_wp2_with fail
              go_ret
              exact ⟨rfl, xx.out⟩
          · have g1 := txt_ne e1
            have g2 := txt_bne e1
            clear e1
            go_wp2_with fail
            refine wp_region_quiet_below (by kernel_rfl) (by kernel_rfl) ?_
            repeat (go_big_quiet_step (refine xQ.out _ _ _ _ _ (by first | exact Or.inl ⟨rfl, rfl, rfl⟩ | exact Or.inr ⟨rfl, rfl, rfl⟩)))
            refine wpQuiet_nil ?_
            intro _ hw'
            obtain ⟨⟨dq, osq⟩, hw''⟩ := hw'
            subst hw''
            have xx := Lib.hid (FW.out.trans ((xB.out dq osq).mono FW.out.size))
            clear r0 r1 r2 s0 s1 s2 t0 t1 xB xQ k5 m5
            go_wp2_with fail
            go_ret
            exact ⟨rfl, xx.out⟩
        · exact absurd (show (⟨_, _, _, _, _, _, _⟩ : Ob) = ⟨_, _, _, _, _, _, _⟩ by rw [EL.out, take_ext (by have q := S.out.2; rw [show k = pn by omega] at q; exact q) HN.out.1.2.symm HN.out.2.2.symm]) NE.out
end Nx
end Go.Proofs.YtehgnbgbmicheaaGreatDoor
