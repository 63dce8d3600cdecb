/-
  THE WALK of ScopeWithin.
-/
import Derived.Test.YthnhggonclkagaaDoorScT
import Derived.Test.YthnhggonclkagaaDoorScN
import Derived.Test.YthnhggonclkagaaDoorScF
import Derived.Test.YthnhggonclkagaaDoorScQ
namespace Go.Proofs.YthnhggonclkagaaDoor
open Go.RowKit
/-- Simple objects: with a part that names, or none. -/
def fhB (nm : Bool) (p d : Int) (n : Nat) (a : Int) : Bool := match n with | 0 => true | 1 => !nm | 2 => nm | 3 => decide (0 < d) | 4 => decide (d ≤ 0) | _ => p == a
def fnB (nm : Bool) (p d : Int) (k a : Int) : Bool := validB k a && fhB nm p d k.toNat a
/-- One of them tells two scopes apart. -/
def wit (k a k' a' : Int) (p d : Nat) : Bool := (fnB false p d k a && !fnB false p d k' a') || (fnB true p d k a && !fnB true p d k' a')
theorem wit_ex : ∀ s ∈ allS, ∀ u ∈ allS, s = u ∨ u.1 = 0 ∨ (List.range 10).any (fun p => (List.range 2).any (fun d => wit s.1 s.2 u.1 u.2 p d)) = true := by decide +kernel
def named : List Pt := [⟨⟨#[]⟩, [⟨tCpu, 0⟩], []⟩]
theorem fh_x (p d a : Int) (n : Nat) : holdB ⟨⟨#[]⟩, ⟨#[]⟩, [], p, d, [], 0⟩ n a = fhB false p d n a := by
  match n with
  | 0 => rfl
  | 1 => rfl
  | 2 => rfl
  | 3 => rfl
  | 4 => rfl
  | n + 5 => rfl
theorem fh_y (p d a : Int) (n : Nat) : holdB ⟨⟨#[]⟩, ⟨#[]⟩, [], p, d, named, 0⟩ n a = fhB true p d n a := by
  match n with
  | 0 => rfl
  | 1 => rfl
  | 2 => rfl
  | 3 => rfl
  | 4 => rfl
  | n + 5 => rfl
theorem in_x (p d k a : Int) : inB ⟨⟨#[]⟩, ⟨#[]⟩, [], p, d, [], 0⟩ k a = fnB false p d k a := by unfold inB fnB; rw [fh_x]
theorem in_y (p d k a : Int) : inB ⟨⟨#[]⟩, ⟨#[]⟩, [], p, d, named, 0⟩ k a = fnB true p d k a := by unfold inB fnB; rw [fh_y]
set_option maxHeartbeats 16000000 in
set_option maxRecDepth 100000 in
theorem scopeWithin_walk (k a k' a' : Int) (o : Ob) (ls ps : Value) (w : World) (hN : Nms w) (_u1 : -9223372036854775808 ≤ k ∧ k ≤ 9223372036854775807) (_u2 : -9223372036854775808 ≤ a ∧ a ≤ 9223372036854775807) (_u3 : -9223372036854775808 ≤ k' ∧ k' ≤ 9223372036854775807) (_u4 : -9223372036854775808 ≤ a' ∧ a' ≤ 9223372036854775807)
    (hv : ObV w ls ps o ∧ o.Fit ∧ o.ls.length * 32 ≤ 140737488355328 ∧ o.ps.length * 64 ≤ 140737488355328 ∧ ∀ y ∈ o.ps, y.r.length * 24 ≤ 140737488355328 ∧ y.l.length * 24 ≤ 140737488355328) :
    Calls Tryd.prog 4 #[.agg #[.int .i64 k, .int .i64 a], .agg #[.int .i64 k', .int .i64 a'], o.val ls ps] w fun e w' => e = .returned (.bool true) ∧ Below w.heap.size w w' := by
  clear _u1 _u2 _u3 _u4
  have OZ : Hid (OSz o) := Lib.hid hv.2.2
  have OV : Hid (ObV w ls ps o) := Lib.hid hv.1
  have H := Lib.hid hN
  obtain ⟨la, lc, rfl, _, _⟩ := hv.1.l.len
  obtain ⟨pa, pc, rfl, _, _⟩ := hv.1.p.len
  clear hv hN
  obtain ⟨op, on, ols, opr, odl, ops, over⟩ := o
  simp only at OV
  unfold Ob.val
  simp only
  obtain ⟨ln, hln⟩ : ∃ n, n = ols.length := ⟨_, rfl⟩
  obtain ⟨pn, hpn⟩ : ∃ n, n = ops.length := ⟨_, rfl⟩
  rw [← hln, ← hpn] at OV ⊢
  have HL : Hid (ln = ols.length ∧ pn = ops.length) := Lib.hid ⟨hln, hpn⟩
  clear hln hpn
  obtain ⟨X, hX⟩ : ∃ X, X = ((w.alloc (.cells #[.int .i64 k, .int .i64 a] 41)).alloc (.cells #[.int .i64 k', .int .i64 a'] 41)).alloc (.cells #[.string op, .string on, .slice la ln lc, .int .i64 opr, .int .i64 odl, .slice pa pn pc, .int .i64 over] 25) := ⟨_, rfl⟩
  have BX : Hid (Below w.heap.size w X) := Lib.hid (by
    rw [hX]
    have q := (below_alR w).out (.cells #[.int .i64 k, .int .i64 a] 41)
    have q2 := q.alloc q.size (.cells #[.int .i64 k', .int .i64 a'] 41)
    exact q2.alloc q2.size _)
  have KC : Hid (∀ W : World, Below X.heap.size X W → ((W.cell? ⟨w.heap.size, 0, none⟩ = some (.int .i64 k) ∧ W.cell? ⟨w.heap.size, 1, none⟩ = some (.int .i64 a) ∧ W.cell? ⟨w.heap.size + 1, 0, none⟩ = some (.int .i64 k') ∧ W.cell? ⟨w.heap.size + 1, 1, none⟩ = some (.int .i64 a')) ∧ W.cell? ⟨w.heap.size + 2, 0, none⟩ = some (.string op) ∧ W.cell? ⟨w.heap.size + 2, 1, none⟩ = some (.string on) ∧ W.cell? ⟨w.heap.size + 2, 2, none⟩ = some (.slice la ln lc) ∧ W.cell? ⟨w.heap.size + 2, 3, none⟩ = some (.int .i64 opr) ∧ W.cell? ⟨w.heap.size + 2, 4, none⟩ = some (.int .i64 odl) ∧ W.cell? ⟨w.heap.size + 2, 5, none⟩ = some (.slice pa pn pc) ∧ W.cell? ⟨w.heap.size + 2, 6, none⟩ = some (.int .i64 over))) := Lib.hid fun W hb => by
    have q0 : ∀ j v, (#[.int .i64 k, .int .i64 a] : Array Value)[j]? = some v → W.cell? ⟨w.heap.size, j, none⟩ = some v := fun j v hv => by
      have e : X.cell? ⟨w.heap.size, j, none⟩ = some v := by rw [hX]; exact cell_al (cell_al (by rw [World.cell?_alloc_new]; exact hv) _) _
      exact (hb.cell (block_lt_of_cell e)).trans e
    have q1 : ∀ j v, (#[.int .i64 k', .int .i64 a'] : Array Value)[j]? = some v → W.cell? ⟨w.heap.size + 1, j, none⟩ = some v := fun j v hv => by
      have e0 : w.heap.size + 1 = (w.alloc (.cells #[.int .i64 k, .int .i64 a] 41)).heap.size := by simp
      have e : X.cell? ⟨w.heap.size + 1, j, none⟩ = some v := by rw [hX]; refine cell_al ?_ _; rw [e0, World.cell?_alloc_new]; exact hv
      exact (hb.cell (block_lt_of_cell e)).trans e
    have q2 : ∀ j v, (#[.string op, .string on, .slice la ln lc, .int .i64 opr, .int .i64 odl, .slice pa pn pc, .int .i64 over] : Array Value)[j]? = some v → W.cell? ⟨w.heap.size + 2, j, none⟩ = some v := fun j v hv => by
      have e0 : w.heap.size + 2 = ((w.alloc (.cells #[.int .i64 k, .int .i64 a] 41)).alloc (.cells #[.int .i64 k', .int .i64 a'] 41)).heap.size := by simp
      have e : X.cell? ⟨w.heap.size + 2, j, none⟩ = some v := by rw [hX, e0, World.cell?_alloc_new]; exact hv
      exact (hb.cell (block_lt_of_cell e)).trans e
    exact ⟨⟨q0 0 _ rfl, q0 1 _ rfl, q1 0 _ rfl, q1 1 _ rfl⟩, q2 0 _ rfl, q2 1 _ rfl, q2 2 _ rfl, q2 3 _ rfl, q2 4 _ rfl, q2 5 _ rfl, q2 6 _ rfl⟩
  have BW : Hid (∀ W, Below X.heap.size X W → Below w.heap.size w W ∧ Nms W) := Lib.hid fun W hb => ⟨BX.out.trans (hb.mono BX.out.size), (H.out.below BX.out).below hb⟩
  have OWN : Hid (∀ W, Below X.heap.size X W → Calls Tryd.prog 11 #[.agg #[.string op, .string on, .slice la ln lc, .int .i64 opr, .int .i64 odl, .slice pa pn pc, .int .i64 over]] W fun e w' => ∃ xa xc ya yc, e = .returned (.agg #[.string op, .string on, .slice xa ln xc, .int .i64 opr, .int .i64 odl, .slice ya pn yc, .int .i64 over]) ∧ Pts w' (.slice ya pn yc) ops ∧ Below X.heap.size X w') := Lib.hid fun W hb => by
    have q := own_any ⟨op, on, ols, opr, odl, ops, over⟩ (.slice la ln lc) (.slice pa pn pc) W (OV.out.below (BW.out W hb).1) OZ.out
    refine q.mono ?_
    rintro e w' ⟨xa, xc, ya, yc, he, ho, hb'⟩
    refine ⟨xa, xc, ya, yc, ?_, ?_, hb.trans (hb'.mono hb.size)⟩
    · rw [he]; unfold Ob.val; simp only [HL.out.1, HL.out.2]
    · have := ho.obv.p
      simp only at this
      rw [HL.out.2]; exact this
  have INN : Hid (∀ W xa xc ya yc (kk aa : Int) (b : Bool), inB ⟨op, on, ols, opr, odl, ops, over⟩ kk aa = b → Below X.heap.size X W → Pts W (.slice ya pn yc) ops → Calls Tryd.prog 17 #[.agg #[.string op, .string on, .slice xa ln xc, .int .i64 opr, .int .i64 odl, .slice ya pn yc, .int .i64 over], .agg #[.int .i64 kk, .int .i64 aa]] W fun e w' => e = .returned (.bool b) ∧ Below X.heap.size X w') := Lib.hid fun W xa xc ya yc kk aa b hbb hb hp => by
    refine (in_any ⟨op, on, ols, opr, odl, ops, over⟩ xa ln xc ya pn yc kk aa W (BW.out W hb).2 hp).mono ?_
    rintro e w' ⟨he, hb'⟩
    exact ⟨by rw [he, hbb], hb.trans (hb'.mono hb.size)⟩
  have EX := Lib.hid hX
  clear hX
  have FX := Lib.hid (fixed_any X (H.out.below BX.out))
  rw [EX.out] at FX
  go_enter Tryd.func4, Tryd.ntmps4
  go_wp2_with fail
  refine FX.out.mono ?_
  rintro e w1 ⟨rfl, hb1⟩
  rw [← EX.out] at hb1
  have X1 := Lib.hid hb1
  obtain ⟨⟨c0, c1, c2, c3⟩, -⟩ := KC.out w1 hb1
  have WI := Lib.hid (within_any k a k' a' w1 (BW.out w1 hb1).2)
  clear hb1 FX EX
  go_wp2_with fail
  refine WI.out.mono ?_
  rintro e w2 ⟨rfl, hb2⟩
  have X2 : Hid (Below X.heap.size X w2) := Lib.hid (X1.out.trans (hb2.mono X1.out.size))
  clear c0 c1 c2 c3 hb2 WI
  obtain ⟨⟨c0, c1, c2, c3⟩, -⟩ := KC.out w2 X2.out
  have V1 := Lib.hid (valid_any k a w2 (BW.out w2 X2.out).2)
  obtain ⟨wi, hwi⟩ : ∃ wi, wi = wiB k a k' a' := ⟨_, rfl⟩
  rw [← hwi]
  have HW := Lib.hid hwi
  clear hwi
  go_wp2_with fail
  refine V1.out.mono ?_
  rintro e w3 ⟨rfl, hb3⟩
  have X3 : Hid (Below X.heap.size X w3) := Lib.hid (X2.out.trans (hb3.mono X2.out.size))
  clear c0 c1 c2 c3 hb3 V1
  obtain ⟨⟨c0, c1, c2, c3⟩, z0, z1, z2, z3, z4, z5, z6⟩ := KC.out w3 X3.out
  have I9 : Hid (inB ⟨op, on, ols, opr, odl, ops, over⟩ 9 0 = false) := Lib.hid (by unfold inB; rw [show validB 9 0 = false by decide]; rfl)

  cases hv : validB k a with
  | false =>
    have ew : wi = false := by rw [HW.out]; unfold wiB; rw [hv]; rfl
    subst ew
    clear hv
    go_wp2_with fail
    refine (OWN.out _ X3.out).mono ?_
    rintro e w5 ⟨xa, xc, ya, yc, rfl, hp5, hb5⟩
    clear c0 c1 c2 c3 z0 z1 z2 z3 z4 z5 z6
    have IN5 := Lib.hid (INN.out w5 xa xc ya yc 9 0 false I9.out hb5 hp5)
    clear hp5 hb5
    go_wp2_with fail
    refine IN5.out.mono ?_
    rintro e w6 ⟨rfl, hb6⟩
    have B6 := Lib.hid (BW.out w6 hb6).1
    clear hb6 IN5
    go_wp2_with fail
    go_ret
    exact ⟨rfl, B6.out⟩
  | true =>
    have V2 := Lib.hid (valid_any k' a' w3 (BW.out w3 X3.out).2)
    go_wp2_with fail
    refine V2.out.mono ?_
    rintro e w4 ⟨rfl, hb4⟩
    have X4 : Hid (Below X.heap.size X w4) := Lib.hid (X3.out.trans (hb4.mono X3.out.size))
    clear c0 c1 c2 c3 z0 z1 z2 z3 z4 z5 z6 hb4 V2
    cases hv' : validB k' a' with
    | false =>
      obtain ⟨⟨c0, c1, c2, c3⟩, z0, z1, z2, z3, z4, z5, z6⟩ := KC.out w4 X4.out
      have ew : wi = false := by rw [HW.out]; unfold wiB; rw [hv, hv']; rfl
      subst ew
      clear hv hv'
      go_wp2_with fail
      refine (OWN.out _ X4.out).mono ?_
      rintro e w5 ⟨xa, xc, ya, yc, rfl, hp5, hb5⟩
      clear c0 c1 c2 c3 z0 z1 z2 z3 z4 z5 z6
      have IN5 := Lib.hid (INN.out w5 xa xc ya yc 9 0 false I9.out hb5 hp5)
      clear hp5 hb5
      go_wp2_with fail
      refine IN5.out.mono ?_
      rintro e w6 ⟨rfl, hb6⟩
      have B6 := Lib.hid (BW.out w6 hb6).1
      clear hb6 IN5
      go_wp2_with fail
      go_ret
      exact ⟨rfl, B6.out⟩
    | true =>
      have EW : Hid (wi = ((k == k' && a == a') || k' == 0)) := Lib.hid (by rw [HW.out]; unfold wiB; rw [hv, hv']; rfl)
      have VV : Hid (validB k a = true ∧ validB k' a' = true) := Lib.hid ⟨hv, hv'⟩
      clear hv hv' HW
      have BD : Hid (Below X.heap.size X w4.drew) := Lib.hid (X4.out.trans ((below_drawn w4 1).mono X4.out.size))
      cases wi with
      | true =>
        cases hia : inB ⟨op, on, ols, opr, odl, ops, over⟩ k a with
        | false =>
          have IA := Lib.hid (fun W xa xc ya yc => INN.out W xa xc ya yc k a false hia)
          clear hia
          go_wp2_with fail

          refine wp_region_held_drew (S := fun W : World => ((W.cell? ⟨w.heap.size, 0, none⟩ = some (.int .i64 k) ∧ W.cell? ⟨w.heap.size, 1, none⟩ = some (.int .i64 a) ∧ W.cell? ⟨w.heap.size + 1, 0, none⟩ = some (.int .i64 k') ∧ W.cell? ⟨w.heap.size + 1, 1, none⟩ = some (.int .i64 a')) ∧ W.cell? ⟨w.heap.size + 2, 0, none⟩ = some (.string op) ∧ W.cell? ⟨w.heap.size + 2, 1, none⟩ = some (.string on) ∧ W.cell? ⟨w.heap.size + 2, 2, none⟩ = some (.slice la ln lc) ∧ W.cell? ⟨w.heap.size + 2, 3, none⟩ = some (.int .i64 opr) ∧ W.cell? ⟨w.heap.size + 2, 4, none⟩ = some (.int .i64 odl) ∧ W.cell? ⟨w.heap.size + 2, 5, none⟩ = some (.slice pa pn pc) ∧ W.cell? ⟨w.heap.size + 2, 6, none⟩ = some (.int .i64 over))) (by kernel_rfl) (KC.out _ BD.out) (fun hHeld => ?_)
          refine wpAnyH_take (i := 0) (oi := { dst := some 38, op := Go.Op.load 25 (Go.Operand.tmp 5), type := 25, pos := "outright.go:63", after := #[], guard := none }) (v := ?_) rfl (by kernel_rfl) (by kernel_rfl) (by kernel_rfl) (fun _ _ _ h => h) (Or.inl ⟨by rfl, ?hy⟩) (by assumption) ?_
          case hy => (intro W hSw; (try dsimp only at hSw); go_simp; try (with_reducible rfl))
          try simp only [Act.put, List.setIfInBounds_toArray, List.set_cons_zero, List.set_cons_succ]
          refine wpAnyH_take (i := 2) (oi := { dst := some 40, op := Go.Op.load 41 (Go.Operand.tmp 3), type := 41, pos := "outright.go:63", after := #[], guard := none }) (v := ?_) rfl (by kernel_rfl) (by kernel_rfl) (by kernel_rfl) (fun _ _ _ h => h) (Or.inl ⟨by rfl, ?hy⟩) (by assumption) ?_
          case hy => (intro W hSw; (try dsimp only at hSw); go_simp; try (with_reducible rfl))
          try simp only [Act.put, List.setIfInBounds_toArray, List.set_cons_zero, List.set_cons_succ]
          refine wpAnyH_ready (rs := [1]) (by kernel_rfl) (by simp) ?_
          refine AllReadyH.cons (o := { dst := some 39, op := Go.Op.call { callee := Go.Callee.value (Go.Operand.func 11), args := #[Go.Operand.tmp 38], argTypes := #[25] }, type := 25, pos := "outright.go:63", after := #[{ on := 0, ground := Go.Ground.data }], guard := none }) rfl (fun K hK => ?_) AllReadyH.nil
          go_simp
          refine (OWN.out _ BD.out).mono ?_
          rintro e w5 ⟨xa, xc, ya, yc, rfl, hp5, hb5⟩
          refine hK.out _ _ (KC.out _ hb5) (fun hHeld => ?_)
          clear hK K
          try simp only [Act.put, List.setIfInBounds_toArray, List.set_cons_zero, List.set_cons_succ]
          refine wpAnyH_ready (rs := [3]) (by kernel_rfl) (by simp) ?_
          refine AllReadyH.cons (o := { dst := some 41, op := Go.Op.call { callee := Go.Callee.value (Go.Operand.func 17), args := #[Go.Operand.tmp 39, Go.Operand.tmp 40], argTypes := #[25, 41] }, type := 4, pos := "outright.go:63", after := #[{ on := 1, ground := Go.Ground.data }, { on := 2, ground := Go.Ground.data }, { on := 1, ground := Go.Ground.chain }], guard := none }) rfl (fun K hK => ?_) AllReadyH.nil
          go_simp
          refine (IA.out _ _ _ _ _ hb5 hp5).mono ?_
          rintro e w6 ⟨rfl, hb6⟩
          refine hK.out _ _ (KC.out _ hb6) (fun hHeld => ?_)
          clear hK K
          try simp only [Act.put, List.setIfInBounds_toArray, List.set_cons_zero, List.set_cons_succ]
          refine wpAnyH_take (i := 4) (oi := { dst := some 42, op := Go.Op.unOp Go.UnOp.not 4 (Go.Operand.tmp 41), type := 4, pos := "outright.go:63", after := #[{ on := 3, ground := Go.Ground.data }], guard := none }) (v := ?_) rfl (by kernel_rfl) (by kernel_rfl) (by kernel_rfl) (fun _ _ _ h => h) (Or.inl ⟨by rfl, ?hy⟩) (by assumption) ?_
          case hy => (intro W hSw; (try dsimp only at hSw); go_simp; try (with_reducible rfl))
          try simp only [Act.put, List.setIfInBounds_toArray, List.set_cons_zero, List.set_cons_succ]
          refine wpAnyH_take (i := 5) (oi := { dst := some 43, op := Go.Op.move (Go.Operand.tmp 42), type := 4, pos := "outright.go:63", after := #[{ on := 4, ground := Go.Ground.data }, { on := 3, ground := Go.Ground.chain }], guard := none }) (v := ?_) rfl (by kernel_rfl) (by kernel_rfl) (by kernel_rfl) (fun _ _ _ h => h) (Or.inl ⟨by rfl, ?hy⟩) (by assumption) ?_
          case hy => (intro W hSw; (try dsimp only at hSw); go_simp; try (with_reducible rfl))
          try simp only [Act.put, List.setIfInBounds_toArray, List.set_cons_zero, List.set_cons_succ]
          refine wpAnyH_take (i := 6) (oi := { dst := some 44, op := Go.Op.load 25 (Go.Operand.tmp 5), type := 25, pos := "outright.go:63", after := #[{ on := 5, ground := Go.Ground.guard }], guard := some (5, false) }) (v := undef) rfl (by kernel_rfl) (by kernel_rfl) (by kernel_rfl) (fun _ _ _ h => h) (Or.inr ⟨by rfl, rfl⟩) (by assumption) ?_
          try simp only [Act.put, List.setIfInBounds_toArray, List.set_cons_zero, List.set_cons_succ]
          refine wpAnyH_take (i := 7) (oi := { dst := some 45, op := Go.Op.call { callee := Go.Callee.value (Go.Operand.func 11), args := #[Go.Operand.tmp 44], argTypes := #[25] }, type := 25, pos := "outright.go:63", after := #[{ on := 6, ground := Go.Ground.data }, { on := 5, ground := Go.Ground.chain }, { on := 5, ground := Go.Ground.guard }], guard := some (5, false) }) (v := undef) rfl (by kernel_rfl) (by kernel_rfl) (by kernel_rfl) (fun _ _ _ h => h) (Or.inr ⟨by rfl, rfl⟩) (by assumption) ?_
          try simp only [Act.put, List.setIfInBounds_toArray, List.set_cons_zero, List.set_cons_succ]
          refine wpAnyH_take (i := 8) (oi := { dst := some 46, op := Go.Op.load 41 (Go.Operand.tmp 4), type := 41, pos := "outright.go:63", after := #[{ on := 5, ground := Go.Ground.guard }], guard := some (5, false) }) (v := undef) rfl (by kernel_rfl) (by kernel_rfl) (by kernel_rfl) (fun _ _ _ h => h) (Or.inr ⟨by rfl, rfl⟩) (by assumption) ?_
          try simp only [Act.put, List.setIfInBounds_toArray, List.set_cons_zero, List.set_cons_succ]
          refine wpAnyH_take (i := 9) (oi := { dst := some 47, op := Go.Op.call { callee := Go.Callee.value (Go.Operand.func 17), args := #[Go.Operand.tmp 45, Go.Operand.tmp 46], argTypes := #[25, 41] }, type := 4, pos := "outright.go:63", after := #[{ on := 7, ground := Go.Ground.data }, { on := 8, ground := Go.Ground.data }, { on := 7, ground := Go.Ground.chain }, { on := 5, ground := Go.Ground.guard }], guard := some (5, false) }) (v := undef) rfl (by kernel_rfl) (by kernel_rfl) (by kernel_rfl) (fun _ _ _ h => h) (Or.inr ⟨by rfl, rfl⟩) (by assumption) ?_
          try simp only [Act.put, List.setIfInBounds_toArray, List.set_cons_zero, List.set_cons_succ]
          refine wpAnyH_take (i := 10) (oi := { dst := some 48, op := Go.Op.pick (Go.Operand.tmp 43) (Go.Operand.const (Go.Value.bool true)) (Go.Operand.tmp 47), type := 4, pos := "outright.go:63", after := #[{ on := 5, ground := Go.Ground.data }, { on := 9, ground := Go.Ground.data }], guard := none }) (v := ?_) rfl (by kernel_rfl) (by kernel_rfl) (by kernel_rfl) (fun _ _ _ h => h) (Or.inl ⟨by rfl, ?hy⟩) (by assumption) ?_
          case hy => (intro W hSw; (try dsimp only at hSw); go_simp; try (with_reducible rfl))
          try simp only [Act.put, List.setIfInBounds_toArray, List.set_cons_zero, List.set_cons_succ]
          refine wpAnyH_take (i := 11) (oi := { dst := some 6, op := Go.Op.assign (Go.Operand.tmp 48), type := 4, pos := "outright.go:63", after := #[{ on := 10, ground := Go.Ground.data }, { on := 9, ground := Go.Ground.chain }, { on := 0, ground := Go.Ground.phase }, { on := 1, ground := Go.Ground.phase }, { on := 2, ground := Go.Ground.phase }, { on := 3, ground := Go.Ground.phase }, { on := 4, ground := Go.Ground.phase }, { on := 5, ground := Go.Ground.phase }, { on := 6, ground := Go.Ground.phase }, { on := 7, ground := Go.Ground.phase }, { on := 8, ground := Go.Ground.phase }, { on := 9, ground := Go.Ground.phase }, { on := 10, ground := Go.Ground.phase }], guard := none }) (v := ?_) rfl (by kernel_rfl) (by kernel_rfl) (by kernel_rfl) (fun _ _ _ h => h) (Or.inl ⟨by rfl, ?hy⟩) (by assumption) ?_
          case hy => (intro W hSw; (try dsimp only at hSw); go_simp; try (with_reducible rfl))
          try simp only [Act.put, List.setIfInBounds_toArray, List.set_cons_zero, List.set_cons_succ]
          refine wpAnyH_done (by kernel_rfl) ?_ _
          have B6 := Lib.hid (BW.out w6 hb6).1
          clear hb5 hb6 hp5
          go_wp2_with fail
          go_ret
          exact ⟨rfl, B6.out⟩
        | true =>
          have IA := Lib.hid (fun W xa xc ya yc => INN.out W xa xc ya yc k a true hia)
          have IB := Lib.hid (fun W xa xc ya yc => INN.out W xa xc ya yc k' a' true (by
            have e := EW.out
            by_cases hs : k = k' ∧ a = a'
            · rw [← hs.1, ← hs.2]; exact hia
            · have h0 : k' = 0 := by
                by_cases q : k' = 0
                · exact q
                · have g : ((k == k' && a == a') || k' == 0) = false := by
                    rw [Bool.or_eq_false_iff, Bool.and_eq_false_iff, beq_eq_false_iff_ne, beq_eq_false_iff_ne, beq_eq_false_iff_ne]
                    refine ⟨?_, q⟩
                    by_cases t : k = k'
                    · exact Or.inr (fun e => hs ⟨t, e⟩)
                    · exact Or.inl t
                  rw [g] at e
                  cases e
              subst h0
              unfold inB
              rw [VV.out.2]
              rfl))
          clear hia
          go_wp2_with fail
          refine wp_region_held_drew (S := fun W : World => ((W.cell? ⟨w.heap.size, 0, none⟩ = some (.int .i64 k) ∧ W.cell? ⟨w.heap.size, 1, none⟩ = some (.int .i64 a) ∧ W.cell? ⟨w.heap.size + 1, 0, none⟩ = some (.int .i64 k') ∧ W.cell? ⟨w.heap.size + 1, 1, none⟩ = some (.int .i64 a')) ∧ W.cell? ⟨w.heap.size + 2, 0, none⟩ = some (.string op) ∧ W.cell? ⟨w.heap.size + 2, 1, none⟩ = some (.string on) ∧ W.cell? ⟨w.heap.size + 2, 2, none⟩ = some (.slice la ln lc) ∧ W.cell? ⟨w.heap.size + 2, 3, none⟩ = some (.int .i64 opr) ∧ W.cell? ⟨w.heap.size + 2, 4, none⟩ = some (.int .i64 odl) ∧ W.cell? ⟨w.heap.size + 2, 5, none⟩ = some (.slice pa pn pc) ∧ W.cell? ⟨w.heap.size + 2, 6, none⟩ = some (.int .i64 over))) (by kernel_rfl) (KC.out _ BD.out) (fun hHeld => ?_)
          refine wpAnyH_take (i := 0) (oi := { dst := some 38, op := Go.Op.load 25 (Go.Operand.tmp 5), type := 25, pos := "outright.go:63", after := #[], guard := none }) (v := ?_) rfl (by kernel_rfl) (by kernel_rfl) (by kernel_rfl) (fun _ _ _ h => h) (Or.inl ⟨by rfl, ?hy⟩) (by assumption) ?_
          case hy => (intro W hSw; (try dsimp only at hSw); go_simp; try (with_reducible rfl))
          try simp only [Act.put, List.setIfInBounds_toArray, List.set_cons_zero, List.set_cons_succ]
          refine wpAnyH_take (i := 2) (oi := { dst := some 40, op := Go.Op.load 41 (Go.Operand.tmp 3), type := 41, pos := "outright.go:63", after := #[], guard := none }) (v := ?_) rfl (by kernel_rfl) (by kernel_rfl) (by kernel_rfl) (fun _ _ _ h => h) (Or.inl ⟨by rfl, ?hy⟩) (by assumption) ?_
          case hy => (intro W hSw; (try dsimp only at hSw); go_simp; try (with_reducible rfl))
          try simp only [Act.put, List.setIfInBounds_toArray, List.set_cons_zero, List.set_cons_succ]
          refine wpAnyH_ready (rs := [1]) (by kernel_rfl) (by simp) ?_
          refine AllReadyH.cons (o := { dst := some 39, op := Go.Op.call { callee := Go.Callee.value (Go.Operand.func 11), args := #[Go.Operand.tmp 38], argTypes := #[25] }, type := 25, pos := "outright.go:63", after := #[{ on := 0, ground := Go.Ground.data }], guard := none }) rfl (fun K hK => ?_) AllReadyH.nil
          go_simp
          refine (OWN.out _ BD.out).mono ?_
          rintro e w5 ⟨xa, xc, ya, yc, rfl, hp5, hb5⟩
          refine hK.out _ _ (KC.out _ hb5) (fun hHeld => ?_)
          clear hK K
          try simp only [Act.put, List.setIfInBounds_toArray, List.set_cons_zero, List.set_cons_succ]
          refine wpAnyH_ready (rs := [3]) (by kernel_rfl) (by simp) ?_
          refine AllReadyH.cons (o := { dst := some 41, op := Go.Op.call { callee := Go.Callee.value (Go.Operand.func 17), args := #[Go.Operand.tmp 39, Go.Operand.tmp 40], argTypes := #[25, 41] }, type := 4, pos := "outright.go:63", after := #[{ on := 1, ground := Go.Ground.data }, { on := 2, ground := Go.Ground.data }, { on := 1, ground := Go.Ground.chain }], guard := none }) rfl (fun K hK => ?_) AllReadyH.nil
          go_simp
          refine (IA.out _ _ _ _ _ hb5 hp5).mono ?_
          rintro e w6 ⟨rfl, hb6⟩
          refine hK.out _ _ (KC.out _ hb6) (fun hHeld => ?_)
          clear hK K
          try simp only [Act.put, List.setIfInBounds_toArray, List.set_cons_zero, List.set_cons_succ]
          refine wpAnyH_take (i := 4) (oi := { dst := some 42, op := Go.Op.unOp Go.UnOp.not 4 (Go.Operand.tmp 41), type := 4, pos := "outright.go:63", after := #[{ on := 3, ground := Go.Ground.data }], guard := none }) (v := ?_) rfl (by kernel_rfl) (by kernel_rfl) (by kernel_rfl) (fun _ _ _ h => h) (Or.inl ⟨by rfl, ?hy⟩) (by assumption) ?_
          case hy => (intro W hSw; (try dsimp only at hSw); go_simp; try (with_reducible rfl))
          try simp only [Act.put, List.setIfInBounds_toArray, List.set_cons_zero, List.set_cons_succ]
          refine wpAnyH_take (i := 5) (oi := { dst := some 43, op := Go.Op.move (Go.Operand.tmp 42), type := 4, pos := "outright.go:63", after := #[{ on := 4, ground := Go.Ground.data }, { on := 3, ground := Go.Ground.chain }], guard := none }) (v := ?_) rfl (by kernel_rfl) (by kernel_rfl) (by kernel_rfl) (fun _ _ _ h => h) (Or.inl ⟨by rfl, ?hy⟩) (by assumption) ?_
          case hy => (intro W hSw; (try dsimp only at hSw); go_simp; try (with_reducible rfl))
          try simp only [Act.put, List.setIfInBounds_toArray, List.set_cons_zero, List.set_cons_succ]
          refine wpAnyH_take (i := 6) (oi := { dst := some 44, op := Go.Op.load 25 (Go.Operand.tmp 5), type := 25, pos := "outright.go:63", after := #[{ on := 5, ground := Go.Ground.guard }], guard := some (5, false) }) (v := ?_) rfl (by kernel_rfl) (by kernel_rfl) (by kernel_rfl) (fun _ _ _ h => h) (Or.inl ⟨by rfl, ?hy⟩) (by assumption) ?_
          case hy => (intro W hSw; (try dsimp only at hSw); go_simp; try (with_reducible rfl))
          try simp only [Act.put, List.setIfInBounds_toArray, List.set_cons_zero, List.set_cons_succ]
          refine wpAnyH_take (i := 8) (oi := { dst := some 46, op := Go.Op.load 41 (Go.Operand.tmp 4), type := 41, pos := "outright.go:63", after := #[{ on := 5, ground := Go.Ground.guard }], guard := some (5, false) }) (v := ?_) rfl (by kernel_rfl) (by kernel_rfl) (by kernel_rfl) (fun _ _ _ h => h) (Or.inl ⟨by rfl, ?hy⟩) (by assumption) ?_
          case hy => (intro W hSw; (try dsimp only at hSw); go_simp; try (with_reducible rfl))
          try simp only [Act.put, List.setIfInBounds_toArray, List.set_cons_zero, List.set_cons_succ]
          refine wpAnyH_ready (rs := [7]) (by kernel_rfl) (by simp) ?_
          refine AllReadyH.cons (o := { dst := some 45, op := Go.Op.call { callee := Go.Callee.value (Go.Operand.func 11), args := #[Go.Operand.tmp 44], argTypes := #[25] }, type := 25, pos := "outright.go:63", after := #[{ on := 6, ground := Go.Ground.data }, { on := 5, ground := Go.Ground.chain }, { on := 5, ground := Go.Ground.guard }], guard := some (5, false) }) rfl (fun K hK => ?_) AllReadyH.nil
          go_simp
          refine (OWN.out _ hb6).mono ?_
          rintro e w7 ⟨ua, uc, va, vc, rfl, hp7, hb7⟩
          refine hK.out _ _ (KC.out _ hb7) (fun hHeld => ?_)
          clear hK K
          try simp only [Act.put, List.setIfInBounds_toArray, List.set_cons_zero, List.set_cons_succ]
          refine wpAnyH_ready (rs := [9]) (by kernel_rfl) (by simp) ?_
          refine AllReadyH.cons (o := { dst := some 47, op := Go.Op.call { callee := Go.Callee.value (Go.Operand.func 17), args := #[Go.Operand.tmp 45, Go.Operand.tmp 46], argTypes := #[25, 41] }, type := 4, pos := "outright.go:63", after := #[{ on := 7, ground := Go.Ground.data }, { on := 8, ground := Go.Ground.data }, { on := 7, ground := Go.Ground.chain }, { on := 5, ground := Go.Ground.guard }], guard := some (5, false) }) rfl (fun K hK => ?_) AllReadyH.nil
          go_simp
          refine (IB.out _ _ _ _ _ hb7 hp7).mono ?_
          rintro e w8 ⟨rfl, hb8⟩
          refine hK.out _ _ (KC.out _ hb8) (fun hHeld => ?_)
          clear hK K
          try simp only [Act.put, List.setIfInBounds_toArray, List.set_cons_zero, List.set_cons_succ]
          refine wpAnyH_take (i := 10) (oi := { dst := some 48, op := Go.Op.pick (Go.Operand.tmp 43) (Go.Operand.const (Go.Value.bool true)) (Go.Operand.tmp 47), type := 4, pos := "outright.go:63", after := #[{ on := 5, ground := Go.Ground.data }, { on := 9, ground := Go.Ground.data }], guard := none }) (v := ?_) rfl (by kernel_rfl) (by kernel_rfl) (by kernel_rfl) (fun _ _ _ h => h) (Or.inl ⟨by rfl, ?hy⟩) (by assumption) ?_
          case hy => (intro W hSw; (try dsimp only at hSw); go_simp; try (with_reducible rfl))
          try simp only [Act.put, List.setIfInBounds_toArray, List.set_cons_zero, List.set_cons_succ]
          refine wpAnyH_take (i := 11) (oi := { dst := some 6, op := Go.Op.assign (Go.Operand.tmp 48), type := 4, pos := "outright.go:63", after := #[{ on := 10, ground := Go.Ground.data }, { on := 9, ground := Go.Ground.chain }, { on := 0, ground := Go.Ground.phase }, { on := 1, ground := Go.Ground.phase }, { on := 2, ground := Go.Ground.phase }, { on := 3, ground := Go.Ground.phase }, { on := 4, ground := Go.Ground.phase }, { on := 5, ground := Go.Ground.phase }, { on := 6, ground := Go.Ground.phase }, { on := 7, ground := Go.Ground.phase }, { on := 8, ground := Go.Ground.phase }, { on := 9, ground := Go.Ground.phase }, { on := 10, ground := Go.Ground.phase }], guard := none }) (v := ?_) rfl (by kernel_rfl) (by kernel_rfl) (by kernel_rfl) (fun _ _ _ h => h) (Or.inl ⟨by rfl, ?hy⟩) (by assumption) ?_
          case hy => (intro W hSw; (try dsimp only at hSw); go_simp; try (with_reducible rfl))
          try simp only [Act.put, List.setIfInBounds_toArray, List.set_cons_zero, List.set_cons_succ]
          refine wpAnyH_done (by kernel_rfl) ?_ _
          have B8 := Lib.hid (BW.out w8 hb8).1
          clear hb5 hb6 hp5 hb7 hp7 hb8
          go_wp2_with fail
          go_ret
          exact ⟨rfl, B8.out⟩
      | false =>
        have WX : Hid ((List.range 10).any (fun p => (List.range 2).any (fun d => wit k a k' a' p d)) = true) := Lib.hid (by
          have e := EW.out
          rcases wit_ex _ (mem_all VV.out.1) _ (mem_all VV.out.2) with q | q | q
          · simp only [Prod.mk.injEq] at q
            rw [q.1, q.2] at e
            simp at e
          · simp only at q
            rw [q] at e
            simp at e
          · exact q)
        obtain ⟨V, hV⟩ : ∃ V, V = (w4.alloc (.cells #[.string ⟨#[99, 112, 117]⟩, .int .i64 0] 36)).alloc (.cells #[.string ⟨#[]⟩, .slice (some ⟨w4.heap.size, 0, none⟩) 1 1, .slice none 0 0] 33) := ⟨_, rfl⟩
        have VS : Hid (Below X.heap.size X V ∧ Pts V (.slice (some ⟨w4.heap.size + 1, 0, none⟩) 1 1) named) := Lib.hid (by
          obtain ⟨U, hU⟩ : ∃ U, U = w4.alloc (.cells #[.string ⟨#[99, 112, 117]⟩, .int .i64 0] 36) := ⟨_, rfl⟩
          rw [← hU] at hV
          have O1 : OwnR kAm w4.heap.size U (.slice (some ⟨w4.heap.size, 0, none⟩) 1 1) [⟨tCpu, 0⟩] := by rw [hU]; exact row_built w4 _ okAm rfl rfl (by show 1 ≤ maxLen; decide)
          have US : U.heap.size = w4.heap.size + 1 := by rw [hU]; simp
          have BU : Below X.heap.size X U := by rw [hU]; exact X4.out.alloc X4.out.size _
          have BV : Below U.heap.size U V := by rw [hV]; exact (below_alR U).out _
          have O2 : OwnR kPt U.heap.size V (.slice (some ⟨U.heap.size, 0, none⟩) 1 1) [⟨⟨#[]⟩, ⟨some ⟨w4.heap.size, 0, none⟩, 1, 1⟩, ⟨none, 0, 0⟩⟩] := by rw [hV]; exact row_built U _ okPt rfl rfl (by show 1 ≤ maxLen; decide)
          refine ⟨BU.trans (BV.mono BU.size), ⟨_, by rw [← US]; exact O2.row okPt, rfl, fun k hk => ?_⟩⟩
          have : k = 0 := by simp [named] at hk; omega
          subst this
          exact ⟨rfl, (O1.row okAm).below BV, Row.nil _⟩)
        have EV := Lib.hid hV
        clear hV BD
        go_wp2_with fail
        rw [← EV.out]
        clear EV
        go_loopg [10] 10 (fun g si wr => ∃ (pn : Nat) (p : Int), pn ≤ 10 ∧ g = 10 - pn ∧ p = (pn : Int) ∧ si = .int .i64 p ∧ (∀ p', p' < pn → ∀ d', d' < 2 → wit k a k' a' p' d' = false) ∧ Below V.heap.size V wr)
        case atStart => exact ⟨0, 0, by omega, rfl, rfl, rfl, fun p' h => absurd h (by omega), Below.refl _ _⟩
        case round =>
          obtain ⟨pq, p, hp, hg, hpp, rfl, hno, hb⟩ := hrel
          have R : Hid (gk = 10 - pq ∧ p = (pq : Int) ∧ (∀ p', p' < pq → ∀ d', d' < 2 → wit k a k' a' p' d' = false) ∧ Below V.heap.size V wr ∧ pq ≤ 10) := Lib.hid ⟨hg, hpp, hno, hb, hp⟩
          by_cases hlt : pq < 10
          · have hlt' : decide (p < 10) = true := decide_eq_true (by omega)
            have bp : 0 ≤ p ∧ p ≤ 100 := by omega
            have LP := Lib.hid hlt
            clear hp hg hpp hno hb hlt
            go_wp2_with fail
            go_loopg [11] 2 (fun g si wq => ∃ (dn : Nat) (d : Int), dn ≤ 2 ∧ g = 2 - dn ∧ d = (dn : Int) ∧ si = .int .i64 d ∧ (∀ d', d' < dn → wit k a k' a' pq d' = false) ∧ Below V.heap.size V wq)
            case atStart => exact ⟨0, 0, by omega, rfl, rfl, rfl, fun d' h => absurd h (by omega), R.out.2.2.2.1⟩
            case round =>
              obtain ⟨dq, d, hd, hg, hdd, rfl, hno, hb⟩ := hrel
              have S : Hid (gk = 2 - dq ∧ d = (dq : Int) ∧ (∀ d', d' < dq → wit k a k' a' pq d' = false) ∧ Below V.heap.size V wr ∧ dq ≤ 2) := Lib.hid ⟨hg, hdd, hno, hb, hd⟩
              by_cases hld : dq < 2
              · have hld' : decide (d < 2) = true := decide_eq_true (by omega)
                have bd : 0 ≤ d ∧ d ≤ 100 := by omega
                have LD := Lib.hid hld
                clear hd hg hdd hno hb hld
                have XW : Hid (Below X.heap.size X wr ∧ Pts wr (.slice (some ⟨w4.heap.size + 1, 0, none⟩) 1 1) named) := Lib.hid ⟨VS.out.1.trans (S.out.2.2.2.1.mono VS.out.1.size), VS.out.2.below S.out.2.2.2.1⟩
                obtain ⟨Z, hZ⟩ : ∃ Z, Z = (wr.alloc (.cells #[.string ⟨#[]⟩, .string ⟨#[]⟩, .slice none 0 0, .int .i64 p, .int .i64 d, .slice none 0 0, .int .i64 0] 25)).alloc (.cells #[.string ⟨#[]⟩, .string ⟨#[]⟩, .slice none 0 0, .int .i64 p, .int .i64 d, .slice (some ⟨w4.heap.size + 1, 0, none⟩) 1 1, .int .i64 0] 25) := ⟨_, rfl⟩
                have ZB : Hid (Below wr.heap.size wr Z) := Lib.hid (by rw [hZ]; have q := (below_alR wr).out (.cells #[.string ⟨#[]⟩, .string ⟨#[]⟩, .slice none 0 0, .int .i64 p, .int .i64 d, .slice none 0 0, .int .i64 0] 25); exact q.alloc q.size _)
                have KZ : Hid (∀ W : World, Below Z.heap.size Z W → (∀ j v, (#[.string ⟨#[]⟩, .string ⟨#[]⟩, .slice none 0 0, .int .i64 p, .int .i64 d, .slice none 0 0, .int .i64 0] : Array Value)[j]? = some v → W.cell? ⟨wr.heap.size, j, none⟩ = some v) ∧ (∀ j v, (#[.string ⟨#[]⟩, .string ⟨#[]⟩, .slice none 0 0, .int .i64 p, .int .i64 d, .slice (some ⟨w4.heap.size + 1, 0, none⟩) 1 1, .int .i64 0] : Array Value)[j]? = some v → W.cell? ⟨wr.heap.size + 1, j, none⟩ = some v) ∧ Below X.heap.size X W ∧ Below V.heap.size V W ∧ Pts W (.slice (some ⟨w4.heap.size + 1, 0, none⟩) 1 1) named) := Lib.hid fun W hb => by
                  have b1 : Below wr.heap.size wr W := ZB.out.trans (hb.mono ZB.out.size)
                  refine ⟨fun j v hv => ?_, fun j v hv => ?_, XW.out.1.trans (b1.mono XW.out.1.size), S.out.2.2.2.1.trans (b1.mono S.out.2.2.2.1.size), XW.out.2.below b1⟩
                  · have e : Z.cell? ⟨wr.heap.size, j, none⟩ = some v := by rw [hZ]; exact cell_al (by rw [World.cell?_alloc_new]; exact hv) _
                    exact (hb.cell (block_lt_of_cell e)).trans e
                  · have e0 : wr.heap.size + 1 = (wr.alloc (.cells #[.string ⟨#[]⟩, .string ⟨#[]⟩, .slice none 0 0, .int .i64 p, .int .i64 d, .slice none 0 0, .int .i64 0] 25)).heap.size := by simp
                    have e : Z.cell? ⟨wr.heap.size + 1, j, none⟩ = some v := by rw [hZ, e0, World.cell?_alloc_new]; exact hv
                    exact (hb.cell (block_lt_of_cell e)).trans e
                have INX : Hid (∀ W (kk aa : Int) (b : Bool), fnB false p d kk aa = b → Below Z.heap.size Z W → Calls Tryd.prog 17 #[.agg #[.string ⟨#[]⟩, .string ⟨#[]⟩, .slice none 0 0, .int .i64 p, .int .i64 d, .slice none 0 0, .int .i64 0], .agg #[.int .i64 kk, .int .i64 aa]] W fun e w' => e = .returned (.bool b) ∧ Below Z.heap.size Z w') := Lib.hid fun W kk aa b hbb hb => by
                  refine (in_any ⟨⟨#[]⟩, ⟨#[]⟩, [], p, d, [], 0⟩ none 0 0 none 0 0 kk aa W (BW.out W (KZ.out W hb).2.2.1).2 ⟨[], Row.nil _, rfl, fun k hk => by simp at hk⟩).mono ?_
                  rintro e w' ⟨he, hb'⟩
                  exact ⟨by rw [he, in_x, hbb], hb.trans (hb'.mono hb.size)⟩
                have INY : Hid (∀ W (kk aa : Int) (b : Bool), fnB true p d kk aa = b → Below Z.heap.size Z W → Calls Tryd.prog 17 #[.agg #[.string ⟨#[]⟩, .string ⟨#[]⟩, .slice none 0 0, .int .i64 p, .int .i64 d, .slice (some ⟨w4.heap.size + 1, 0, none⟩) 1 1, .int .i64 0], .agg #[.int .i64 kk, .int .i64 aa]] W fun e w' => e = .returned (.bool b) ∧ Below Z.heap.size Z w') := Lib.hid fun W kk aa b hbb hb => by
                  refine (in_any ⟨⟨#[]⟩, ⟨#[]⟩, [], p, d, named, 0⟩ none 0 0 (some ⟨w4.heap.size + 1, 0, none⟩) 1 1 kk aa W (BW.out W (KZ.out W hb).2.2.1).2 (KZ.out W hb).2.2.2.2).mono ?_
                  rintro e w' ⟨he, hb'⟩
                  exact ⟨by rw [he, in_y, hbb], hb.trans (hb'.mono hb.size)⟩
                have WQ : Hid (wit k a k' a' pq dq = ((fnB false p d k a && !fnB false p d k' a') || (fnB true p d k a && !fnB true p d k' a'))) := Lib.hid (by unfold wit; rw [R.out.2.1, S.out.2.1])
                have GO : Hid (wit k a k' a' pq dq = false → ∀ d', d' < dq + 1 → wit k a k' a' pq d' = false) := Lib.hid fun q d' hd' => by
                  by_cases e : d' = dq
                  · rw [e]; exact q
                  · exact S.out.2.2.1 d' (by omega)
                have EZ := Lib.hid hZ
                clear hZ
                have i0 : Hid (∀ W : World, Below Z.heap.size Z W → W.cell? ⟨wr.heap.size, 0, none⟩ = some (.string ⟨#[]⟩) ∧ W.cell? ⟨wr.heap.size, 1, none⟩ = some (.string ⟨#[]⟩) ∧ W.cell? ⟨wr.heap.size, 2, none⟩ = some (.slice none 0 0) ∧ W.cell? ⟨wr.heap.size, 3, none⟩ = some (.int .i64 p) ∧ W.cell? ⟨wr.heap.size, 4, none⟩ = some (.int .i64 d) ∧ W.cell? ⟨wr.heap.size, 5, none⟩ = some (.slice none 0 0) ∧ W.cell? ⟨wr.heap.size, 6, none⟩ = some (.int .i64 0)) := Lib.hid fun W hb => by
                  have q := (KZ.out W hb).1
                  exact ⟨q 0 _ rfl, q 1 _ rfl, q 2 _ rfl, q 3 _ rfl, q 4 _ rfl, q 5 _ rfl, q 6 _ rfl⟩
                have j0 : Hid (∀ W : World, Below Z.heap.size Z W → W.cell? ⟨wr.heap.size + 1, 0, none⟩ = some (.string ⟨#[]⟩) ∧ W.cell? ⟨wr.heap.size + 1, 1, none⟩ = some (.string ⟨#[]⟩) ∧ W.cell? ⟨wr.heap.size + 1, 2, none⟩ = some (.slice none 0 0) ∧ W.cell? ⟨wr.heap.size + 1, 3, none⟩ = some (.int .i64 p) ∧ W.cell? ⟨wr.heap.size + 1, 4, none⟩ = some (.int .i64 d) ∧ W.cell? ⟨wr.heap.size + 1, 5, none⟩ = some (.slice (some ⟨w4.heap.size + 1, 0, none⟩) 1 1) ∧ W.cell? ⟨wr.heap.size + 1, 6, none⟩ = some (.int .i64 0)) := Lib.hid fun W hb => by
                  have q := (KZ.out W hb).2.1
                  exact ⟨q 0 _ rfl, q 1 _ rfl, q 2 _ rfl, q 3 _ rfl, q 4 _ rfl, q 5 _ rfl, q 6 _ rfl⟩
                obtain ⟨⟨c0, c1, c2, c3⟩, -⟩ := KC.out Z (KZ.out Z (Below.refl _ _)).2.2.1
                rw [EZ.out] at c0 c1 c2 c3
                obtain ⟨b1, hr1⟩ : ∃ b, b = fnB false p d k a := ⟨_, rfl⟩
                have HR1 := Lib.hid hr1
                have I1 := Lib.hid (INX.out Z k a b1 hr1.symm (Below.refl _ _))
                clear hr1
                rw [EZ.out] at I1
                go_wp2_with fail
                refine I1.out.mono ?_
                rintro e u1 ⟨rfl, hu1⟩
                rw [← EZ.out] at hu1
                have U1 := Lib.hid hu1
                clear c0 c1 c2 c3 I1 hu1
                obtain ⟨⟨c0, c1, c2, c3⟩, -⟩ := KC.out u1 (KZ.out u1 U1.out).2.2.1
                obtain ⟨x0, x1, x2, x3, x4, x5, x6⟩ := i0.out u1 U1.out
                obtain ⟨y0, y1, y2, y3, y4, y5, y6⟩ := j0.out u1 U1.out
                cases b1 with
                | false =>
                  obtain ⟨b3, hr3⟩ : ∃ b, b = fnB true p d k a := ⟨_, rfl⟩
                  have HR3 := Lib.hid hr3
                  have I3 := Lib.hid (INY.out u1 k a b3 hr3.symm U1.out)
                  clear hr3
                  go_wp2_with fail
                  refine I3.out.mono ?_
                  rintro e u3 ⟨rfl, hu⟩
                  have U3 := Lib.hid hu
                  clear c0 c1 c2 c3 x0 x1 x2 x3 x4 x5 x6 y0 y1 y2 y3 y4 y5 y6 I3 hu
                  obtain ⟨⟨c0, c1, c2, c3⟩, -⟩ := KC.out u3 (KZ.out u3 U3.out).2.2.1
                  obtain ⟨x0, x1, x2, x3, x4, x5, x6⟩ := i0.out u3 U3.out
                  obtain ⟨y0, y1, y2, y3, y4, y5, y6⟩ := j0.out u3 U3.out
                  cases b3 with
                  | false =>
                    have NW := Lib.hid (GO.out (by rw [WQ.out, ← HR1.out, ← HR3.out]; first | rfl | simp))
                    have BV2 := Lib.hid (KZ.out u3 U3.out).2.2.2.1
                    go_wp2_with fail
                    go_roundg (2 - (dq + 1))
                    case measure => have := S.out.1; have := LD.out; omega
                    case rel => exact ⟨dq + 1, d + 1, by have := LD.out; omega, rfl, by have := S.out.2.1; omega, by go_num, NW.out, BV2.out⟩
                  | true =>
                    obtain ⟨b4, hr4⟩ : ∃ b, b = fnB true p d k' a' := ⟨_, rfl⟩
                    have HR4 := Lib.hid hr4
                    have I4 := Lib.hid (INY.out u3 k' a' b4 hr4.symm U3.out)
                    clear hr4
                    go_wp2_with fail
                    refine I4.out.mono ?_
                    rintro e u4 ⟨rfl, hu⟩
                    have U4 := Lib.hid hu
                    clear c0 c1 c2 c3 x0 x1 x2 x3 x4 x5 x6 y0 y1 y2 y3 y4 y5 y6 I4 hu
                    obtain ⟨⟨c0, c1, c2, c3⟩, -⟩ := KC.out u4 (KZ.out u4 U4.out).2.2.1
                    obtain ⟨x0, x1, x2, x3, x4, x5, x6⟩ := i0.out u4 U4.out
                    obtain ⟨y0, y1, y2, y3, y4, y5, y6⟩ := j0.out u4 U4.out
                    cases b4 with
                    | false =>
                      have BF := Lib.hid (BW.out u4 (KZ.out u4 U4.out).2.2.1).1
                      go_wp2_with fail
                      go_ret
                      exact ⟨rfl, BF.out⟩
                    | true =>
                      have NW := Lib.hid (GO.out (by rw [WQ.out, ← HR1.out, ← HR3.out, ← HR4.out]; first | rfl | simp))
                      have BV2 := Lib.hid (KZ.out u4 U4.out).2.2.2.1
                      go_wp2_with fail
                      go_roundg (2 - (dq + 1))
                      case measure => have := S.out.1; have := LD.out; omega
                      case rel => exact ⟨dq + 1, d + 1, by have := LD.out; omega, rfl, by have := S.out.2.1; omega, by go_num, NW.out, BV2.out⟩
                | true =>
                  obtain ⟨b2, hr2⟩ : ∃ b, b = fnB false p d k' a' := ⟨_, rfl⟩
                  have HR2 := Lib.hid hr2
                  have I2 := Lib.hid (INX.out u1 k' a' b2 hr2.symm U1.out)
                  clear hr2
                  go_wp2_with fail
                  refine I2.out.mono ?_
                  rintro e u2 ⟨rfl, hu⟩
                  have U2 := Lib.hid hu
                  clear c0 c1 c2 c3 x0 x1 x2 x3 x4 x5 x6 y0 y1 y2 y3 y4 y5 y6 I2 hu
                  obtain ⟨⟨c0, c1, c2, c3⟩, -⟩ := KC.out u2 (KZ.out u2 U2.out).2.2.1
                  obtain ⟨x0, x1, x2, x3, x4, x5, x6⟩ := i0.out u2 U2.out
                  obtain ⟨y0, y1, y2, y3, y4, y5, y6⟩ := j0.out u2 U2.out
                  cases b2 with
                  | false =>
                    have BF := Lib.hid (BW.out u2 (KZ.out u2 U2.out).2.2.1).1
                    go_wp2_with fail
                    go_ret
                    exact ⟨rfl, BF.out⟩
                  | true =>
                    obtain ⟨b3, hr3⟩ : ∃ b, b = fnB true p d k a := ⟨_, rfl⟩
                    have HR3 := Lib.hid hr3
                    have I3 := Lib.hid (INY.out u2 k a b3 hr3.symm U2.out)
                    clear hr3
                    go_wp2_with fail
                    refine I3.out.mono ?_
                    rintro e u3 ⟨rfl, hu⟩
                    have U3 := Lib.hid hu
                    clear c0 c1 c2 c3 x0 x1 x2 x3 x4 x5 x6 y0 y1 y2 y3 y4 y5 y6 I3 hu
                    obtain ⟨⟨c0, c1, c2, c3⟩, -⟩ := KC.out u3 (KZ.out u3 U3.out).2.2.1
                    obtain ⟨x0, x1, x2, x3, x4, x5, x6⟩ := i0.out u3 U3.out
                    obtain ⟨y0, y1, y2, y3, y4, y5, y6⟩ := j0.out u3 U3.out
                    cases b3 with
                    | false =>
                      have NW := Lib.hid (GO.out (by rw [WQ.out, ← HR1.out, ← HR2.out, ← HR3.out]; first | rfl | simp))
                      have BV2 := Lib.hid (KZ.out u3 U3.out).2.2.2.1
                      go_wp2_with fail
                      go_roundg (2 - (dq + 1))
                      case measure => have := S.out.1; have := LD.out; omega
                      case rel => exact ⟨dq + 1, d + 1, by have := LD.out; omega, rfl, by have := S.out.2.1; omega, by go_num, NW.out, BV2.out⟩
                    | true =>
                      obtain ⟨b4, hr4⟩ : ∃ b, b = fnB true p d k' a' := ⟨_, rfl⟩
                      have HR4 := Lib.hid hr4
                      have I4 := Lib.hid (INY.out u3 k' a' b4 hr4.symm U3.out)
                      clear hr4
                      go_wp2_with fail
                      refine I4.out.mono ?_
                      rintro e u4 ⟨rfl, hu⟩
                      have U4 := Lib.hid hu
                      clear c0 c1 c2 c3 x0 x1 x2 x3 x4 x5 x6 y0 y1 y2 y3 y4 y5 y6 I4 hu
                      obtain ⟨⟨c0, c1, c2, c3⟩, -⟩ := KC.out u4 (KZ.out u4 U4.out).2.2.1
                      obtain ⟨x0, x1, x2, x3, x4, x5, x6⟩ := i0.out u4 U4.out
                      obtain ⟨y0, y1, y2, y3, y4, y5, y6⟩ := j0.out u4 U4.out
                      cases b4 with
                      | false =>
                        have BF := Lib.hid (BW.out u4 (KZ.out u4 U4.out).2.2.1).1
                        go_wp2_with fail
                        go_ret
                        exact ⟨rfl, BF.out⟩
                      | true =>
                        have NW := Lib.hid (GO.out (by rw [WQ.out, ← HR1.out, ← HR2.out, ← HR3.out, ← HR4.out]; first | rfl | simp))
                        have BV2 := Lib.hid (KZ.out u4 U4.out).2.2.2.1
                        go_wp2_with fail
                        go_roundg (2 - (dq + 1))
                        case measure => have := S.out.1; have := LD.out; omega
                        case rel => exact ⟨dq + 1, d + 1, by have := LD.out; omega, rfl, by have := S.out.2.1; omega, by go_num, NW.out, BV2.out⟩
              · have hld' : decide (d < 2) = false := decide_eq_false (by omega)
                have NP : Hid (∀ p', p' < pq + 1 → ∀ d', d' < 2 → wit k a k' a' p' d' = false) := Lib.hid fun p' hp' d' hd' => by
                  by_cases e : p' = pq
                  · rw [e]; exact hno d' (by omega)
                  · exact R.out.2.2.1 p' (by omega) d' hd'
                clear hd hg hdd hno hb hld
                go_wp2_with fail
                go_roundg (10 - (pq + 1))
                case measure => have := R.out.1; have := LP.out; omega
                case rel => exact ⟨pq + 1, p + 1, by have := LP.out; omega, rfl, by have := R.out.2.1; omega, by go_num, NP.out, S.out.2.2.2.1⟩
          · exfalso
            have e := WX.out
            rw [List.any_eq_true] at e
            obtain ⟨p', h1, h2⟩ := e
            rw [List.any_eq_true] at h2
            obtain ⟨d', h3, h4⟩ := h2
            rw [hno p' (by have := List.mem_range.1 h1; omega) d' (List.mem_range.1 h3)] at h4
            cases h4
end Go.Proofs.YthnhggonclkagaaDoor
