/-
  sameObject of the same.
-/
import Derived.Test.YtehgnbgbmicheaaGreatDoorObHa
namespace Go.Proofs.YtehgnbgbmicheaaGreatDoor
open Go.RowKit
open Go.Sort (grow)
set_option maxHeartbeats 8000000 in
set_option maxRecDepth 100000 in
theorem sameObject_yes (o : Ob) (vl vp vl' vp' : Value) (w : World) (ho : ObV w vl vp o) (ho' : ObV w vl' vp' o) :
    Calls Tryz.prog 8 #[o.val vl vp, o.val vl' vp'] w fun e w' => e = .returned (.bool true) ∧ Below w.heap.size w w' := by
  have U := Lib.hid ho
  have U' := Lib.hid ho'
  obtain ⟨la, lc, rfl, hlc, hlm⟩ := ho.l.len
  obtain ⟨pa, pc, rfl, hpc, hpm⟩ := ho.p.len
  obtain ⟨la', lc', rfl, hlc', hlm'⟩ := ho'.l.len
  obtain ⟨pa', pc', rfl, hpc', hpm'⟩ := ho'.p.len
  unfold maxLen at hlm hpm hlm' hpm'
  obtain ⟨op, on, ols, opr, odl, ops, ov⟩ := o
  simp only at hlc hpc hlc' hpc' U U'
  obtain ⟨ln, hln⟩ : ∃ ln, ln = ols.length := ⟨_, rfl⟩
  obtain ⟨pn, hpn⟩ : ∃ pn, pn = ops.length := ⟨_, rfl⟩
  unfold Ob.val
  simp only
  rw [← hln] at hlc hlc' U U' ⊢
  rw [← hpn] at hpc hpc' U U' ⊢
  have HN := Lib.hid (And.intro hln hpn)
  clear ho ho' hln hpn
  obtain ⟨X1, hX1⟩ : ∃ X1, X1 = w.alloc (.cells #[.string op, .string on, .slice la ln lc, .int .i64 opr, .int .i64 odl, .slice pa pn pc, .int .i64 ov] 25) := ⟨_, rfl⟩
  obtain ⟨bB, hbB⟩ : ∃ bB, bB = X1.heap.size := ⟨_, rfl⟩
  obtain ⟨X2, hX2⟩ : ∃ X2, X2 = X1.alloc (.cells #[.string op, .string on, .slice la' ln lc', .int .i64 opr, .int .i64 odl, .slice pa' pn pc', .int .i64 ov] 25) := ⟨_, rfl⟩
  have A1 : Below w.heap.size w X1 := by rw [hX1]; exact (Below.refl _ w).alloc (Nat.le_refl _) _
  have A2 : Below X1.heap.size X1 X2 := by rw [hX2]; exact (Below.refl _ _).alloc (Nat.le_refl _) _
  have AX := Lib.hid (A1.trans (A2.mono A1.size))
  have CA : Hid (∀ i y, #[Value.string op, .string on, .slice la ln lc, .int .i64 opr, .int .i64 odl, .slice pa pn pc, .int .i64 ov][i]? = some y → X2.cell? ⟨w.heap.size, i, none⟩ = some y) := Lib.hid fun i y h => by
    have q : X1.cell? ⟨w.heap.size, i, none⟩ = some y := by rw [hX1, World.cell?_alloc_new]; exact h
    exact (A2.cell (block_lt_of_cell q)).trans q
  have CB : Hid (∀ i y, #[Value.string op, .string on, .slice la' ln lc', .int .i64 opr, .int .i64 odl, .slice pa' pn pc', .int .i64 ov][i]? = some y → X2.cell? ⟨bB, i, none⟩ = some y) := Lib.hid fun i y h => by
    rw [hX2, hbB, World.cell?_alloc_new]; exact h
  have hX1' := hX1.symm
  have hX2' := hX2.symm
  have hbB' := hbB.symm
  clear hX1 hX2 A1 A2 hbB
  have k0 := CA.out 0 _ rfl
  have k1 := CA.out 1 _ rfl
  have k2 := CA.out 2 _ rfl
  have k3 := CA.out 3 _ rfl
  have k4 := CA.out 4 _ rfl
  have k5 := CA.out 5 _ rfl
  have k6 := CA.out 6 _ rfl
  have m0 := CB.out 0 _ rfl
  have m1 := CB.out 1 _ rfl
  have m2 := CB.out 2 _ rfl
  have m3 := CB.out 3 _ rfl
  have m4 := CB.out 4 _ rfl
  have m5 := CB.out 5 _ rfl
  have m6 := CB.out 6 _ rfl
  have g0 : (op.toList == op.toList) = true := by simp
  have g1 : (on.toList == on.toList) = true := by simp
  go_enter Tryz.func8, Tryz.ntmps8
  go_wp2_with fail
  clear k0 k1 k2 k3 k4 k5 k6 m0 m1 m2 m3 m4 m5 m6 hX1' hX2' hbB' g0 g1
  go_loopg [5] ln (fun g si wr => ∃ (k : Nat), k ≤ ln ∧ g = ln - k ∧ si = .int .i64 k ∧ Below X2.heap.size X2 wr)
  case atStart => exact ⟨0, Nat.zero_le _, rfl, rfl, Below.refl _ _⟩
  case round =>
    obtain ⟨k, hk, hg, rfl, hb⟩ := hrel
    have R : Aside (gk = ln - k ∧ Below X2.heap.size X2 wr) := ⟨hg, hb⟩
    have k2 := (hb.cell (block_lt_of_cell (CA.out 2 _ rfl))).trans (CA.out 2 _ rfl)
    have m2 := (hb.cell (block_lt_of_cell (CB.out 2 _ rfl))).trans (CB.out 2 _ rfl)
    have FW : Hid (Below w.heap.size w wr) := Lib.hid (AX.out.trans (hb.mono AX.out.size))
    clear hg hb
    by_cases hlt : k < ln
    · have hlt' : (k : Int) < (ln : Int) := by omega
      obtain ⟨b, off, rfl, pc0⟩ := (U.out.l.below FW.out).at k (by rw [← HN.out.1]; exact hlt)
      obtain ⟨b', off', rfl, pc1⟩ := (U'.out.l.below FW.out).at k (by rw [← HN.out.1]; exact hlt)
      simp only at pc0 pc1
      obtain ⟨⟨xk, xv⟩, hx⟩ : ∃ x, x = ols.getD k kLb.z := ⟨_, rfl⟩
      rw [← hx] at pc0 pc1
      have p0 : wr.cell? ⟨b, off + k * 2, none⟩ = some (.string xk) := pc0 0 _ rfl
      have p1 : wr.cell? ⟨b, off + k * 2 + 1, none⟩ = some (.string xv) := pc0 1 _ rfl
      have q0 : wr.cell? ⟨b', off' + k * 2, none⟩ = some (.string xk) := pc1 0 _ rfl
      have q1 : wr.cell? ⟨b', off' + k * 2 + 1, none⟩ = some (.string xv) := pc1 1 _ rfl
      have r0 := reg p0
      have r1 := reg p1
      have s0 := reg q0
      have s1 := reg q1
      have t0 := reg k2
      have t1 := reg m2
      have g0 : (xk.toList == xk.toList) = true := by simp
      have g1 : (xv.toList == xv.toList) = true := by simp
      have xB : Hid (∀ (dq : Nat) (os : Array Obj), Below wr.heap.size wr (grow (redrawn wr dq) os)) := Lib.hid fun dq os => below_regrown wr dq os
      clear hx pc0 pc1 p0 p1 q0 q1
      go_wp2_with fail
      refine wp_region_quiet_below (by kernel_rfl) (by kernel_rfl) ?_
      repeat (go_big_quiet_step (fail))
      refine wpQuiet_nil ?_
      intro _ hw'
      obtain ⟨⟨dq, osq⟩, hw''⟩ := hw'
      subst hw''
      have xx := Lib.hid (R.out.2.trans ((xB.out dq osq).mono R.out.2.size))
      clear r0 r1 s0 s1 t0 t1 xB k2 m2
      obtain ⟨W, hW⟩ : ∃ W, W = grow (redrawn wr dq) osq := ⟨_, rfl⟩
      rw [← hW] at xx ⊢
      clear hW
      go_wp2_with fail
      go_roundg (ln - (k + 1))
      case measure => have := R.out.1; omega
      case rel => exact ⟨k + 1, by omega, rfl, by go_num, xx.out⟩
    · have R1 : Aside (Below X2.heap.size X2 wr) := R.out.2
      go_wp2_with fail
      clear k2 m2 FW R
      go_loopg [6] pn (fun g si wr => ∃ (k : Nat), k ≤ pn ∧ g = pn - k ∧ si = .int .i64 k ∧ Below X2.heap.size X2 wr)
      case atStart => exact ⟨0, Nat.zero_le _, rfl, rfl, R1.out⟩
      case round =>
        clear R1
        obtain ⟨k, hk, hg, rfl, hb⟩ := hrel
        have R : Aside (gk = pn - k ∧ Below X2.heap.size X2 wr) := ⟨hg, hb⟩
        have k5 := (hb.cell (block_lt_of_cell (CA.out 5 _ rfl))).trans (CA.out 5 _ rfl)
        have m5 := (hb.cell (block_lt_of_cell (CB.out 5 _ rfl))).trans (CB.out 5 _ rfl)
        have FW : Hid (Below w.heap.size w wr) := Lib.hid (AX.out.trans (hb.mono AX.out.size))
        clear hg hb
        by_cases hlt : k < pn
        · have hlt' : (k : Int) < (pn : Int) := by omega
          obtain ⟨b, off, ra, rb, rfl, p0, p1, p2, ha, hb1⟩ := (U.out.p.below FW.out).at k (by rw [← HN.out.2]; exact hlt)
          obtain ⟨b', off', ra', rb', rfl, q0, q1, q2, ha', hb1'⟩ := (U'.out.p.below FW.out).at k (by rw [← HN.out.2]; exact hlt)
          simp only at p0 p1 p2 ha hb1 q0 q1 q2 ha' hb1'
          obtain ⟨⟨xn, xr, xl⟩, hx⟩ : ∃ x, x = ops.getD k ⟨⟨#[]⟩, [], []⟩ := ⟨_, rfl⟩
          rw [← hx] at p0 q0 ha hb1 ha' hb1'
          obtain ⟨ra1, ra2, ra3⟩ := ra
          obtain ⟨rb1, rb2, rb3⟩ := rb
          obtain ⟨sa1, sa2, sa3⟩ := ra'
          obtain ⟨sb1, sb2, sb3⟩ := rb'
          unfold Sl.v at p1 p2 q1 q2 ha hb1 ha' hb1'
          simp only at p0 p1 p2 q0 q1 q2 ha hb1 ha' hb1'
          have r0 := reg p0
          have r1 := reg p1
          have r2 := reg p2
          have s0 := reg q0
          have s1 := reg q1
          have s2 := reg q2
          have t0 := reg k5
          have t1 := reg m5
          have g0 : (xn.toList == xn.toList) = true := by simp
          have xB : Hid (∀ (dq : Nat) (os : Array Obj), Below wr.heap.size wr (grow (redrawn wr dq) os)) := Lib.hid fun dq os => below_regrown wr dq os
          have xQ : Hid (∀ u u' d os, (u = .slice ra1 ra2 ra3 ∧ u' = .slice sa1 sa2 sa3) ∨ (u = .slice rb1 rb2 rb3 ∧ u' = .slice sb1 sb2 sb3) → Calls Tryz.prog 20 #[u, u'] (grow (redrawn wr d) os) fun e w'' => e = .returned (.bool true) ∧ ∃ p : Regrown, w'' = grow (redrawn wr p.d) p.os) := Lib.hid fun u u' d os h => by
            rcases h with ⟨rfl, rfl⟩ | ⟨rfl, rfl⟩
            · exact Calls.regrown_of (sameAmounts_yes _ _ xr _ (ha.below (xB.out d os)) (ha'.below (xB.out d os)))
            · exact Calls.regrown_of (sameAmounts_yes _ _ xl _ (hb1.below (xB.out d os)) (hb1'.below (xB.out d os)))
          clear hx p0 p1 p2 q0 q1 q2 ha hb1 ha' hb1'
          go_wp2_with fail
          refine wp_region_quiet_below (by kernel_rfl) (by kernel_rfl) ?_
          repeat (go_big_quiet_step (refine xQ.out _ _ _ _ (by first | exact Or.inl ⟨rfl, rfl⟩ | exact Or.inr ⟨rfl, rfl⟩)))
          refine wpQuiet_nil ?_
          intro _ hw'
          obtain ⟨⟨dq, osq⟩, hw''⟩ := hw'
          subst hw''
          have xx := Lib.hid (R.out.2.trans ((xB.out dq osq).mono R.out.2.size))
          clear r0 r1 r2 s0 s1 s2 t0 t1 xB xQ k5 m5
          obtain ⟨W, hW⟩ : ∃ W, W = grow (redrawn wr dq) osq := ⟨_, rfl⟩
          rw [← hW] at xx ⊢
          clear hW
          go_wp2_with fail
          go_roundg (pn - (k + 1))
          case measure => have := R.out.1; omega
          case rel => exact ⟨k + 1, by omega, rfl, by go_num, xx.out⟩
        · go_wp2_with fail
          go_ret
          exact ⟨rfl, FW.out⟩
end Go.Proofs.YtehgnbgbmicheaaGreatDoor
