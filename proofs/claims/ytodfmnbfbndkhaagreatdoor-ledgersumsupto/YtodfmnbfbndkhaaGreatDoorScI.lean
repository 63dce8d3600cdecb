/-
  kinds; what lies in each; In.
-/
import Derived.Test.YtodfmnbfbndkhaaGreatDoorScB
import Derived.RegionTactic
import Derived.Deep.RegionLaw
import Derived.Deep.RegionHeld3
namespace Go.Proofs.YtodfmnbfbndkhaaGreatDoor
open Go.RowKit
open Go.Sort (grow)
/-- What lies in the scopes of a kind. -/
def holdB (o : Ob) (k : Nat) (a : Int) : Bool := match k with
  | 0 => true
  | 1 => !onamB o.ps
  | 2 => onamB o.ps
  | 3 => decide (0 < o.dl)
  | 4 => decide (o.dl ≤ 0)
  | _ => o.pr == a
def inB (o : Ob) (k a : Int) : Bool := validB k a && holdB o k.toNat a
theorem below_alR (w : World) : Hid (∀ q, Below w.heap.size w (w.alloc q)) := Lib.hid fun q => (Below.refl _ w).alloc (Nat.le_refl _) q
theorem namesAny_any (o : Ob) (la : Option Addr) (ln lc : Nat) (pa : Option Addr) (pn pc : Nat) (w : World) (h : Pts w (.slice pa pn pc) o.ps) :
    Calls Tryz.prog 69 #[o.val (.slice la ln lc) (.slice pa pn pc)] w fun e w' => e = .returned (.bool (onamB o.ps)) ∧ Below w.heap.size w w' := by
  obtain ⟨op, on, ols, opr, odl, ops, over⟩ := o
  unfold Ob.val
  simp only at h ⊢
  have H := Lib.hid h
  have B0 := below_alR w
  have CN : Hid (∀ q, Calls Tryz.prog 39 #[.slice pa pn pc, .func (.func 112) #[] #[]] (w.alloc q) fun e w' => e = .returned (.bool (onamB ops)) ∧ Below (w.alloc q).heap.size (w.alloc q) w') := Lib.hid fun q => contains_names _ ops _ (H.out.below (B0.out q))
  clear h
  go_enter Tryz.func69, Tryz.ntmps69
  go_wp2_with fail
  refine (CN.out _).mono ?_
  rintro e w1 ⟨rfl, hb⟩
  have B1 := Lib.hid ((B0.out _).trans (hb.mono (B0.out _).size))
  clear hb CN
  go_wp2_with fail
  go_ret
  exact ⟨rfl, B1.out⟩

theorem hold_0 (o : Ob) (la : Option Addr) (ln lc : Nat) (pa : Option Addr) (pn pc : Nat) (a : Int) (w : World) (h : Pts w (.slice pa pn pc) o.ps) :
    Calls Tryz.prog 67 #[o.val (.slice la ln lc) (.slice pa pn pc), .int .i64 a] w fun e w' => e = .returned (.bool true) ∧ Below w.heap.size w w' := by
  obtain ⟨op, on, ols, opr, odl, ops, over⟩ := o
  clear h
  have B0 := below_alR w
  unfold Ob.val
  simp only
  go_enter Tryz.func67, Tryz.ntmps67
  go_wp2_with fail
  go_ret
  exact ⟨by first | rfl | simp, by first | exact B0.out _ | exact Below.refl _ _⟩
theorem hold_1 (o : Ob) (la : Option Addr) (ln lc : Nat) (pa : Option Addr) (pn pc : Nat) (a : Int) (w : World) (h : Pts w (.slice pa pn pc) o.ps) :
    Calls Tryz.prog 68 #[o.val (.slice la ln lc) (.slice pa pn pc), .int .i64 a] w fun e w' => e = .returned (.bool (!onamB o.ps)) ∧ Below w.heap.size w w' := by
  obtain ⟨op, on, ols, opr, odl, ops, over⟩ := o
  have B0 := below_alR w
  have NA : Hid (∀ q, Calls Tryz.prog 69 #[.agg #[.string op, .string on, .slice la ln lc, .int .i64 opr, .int .i64 odl, .slice pa pn pc, .int .i64 over]] (w.alloc q) fun e w' => e = .returned (.bool (onamB ops)) ∧ Below (w.alloc q).heap.size (w.alloc q) w') := Lib.hid fun q => namesAny_any ⟨op, on, ols, opr, odl, ops, over⟩ la ln lc pa pn pc _ (h.below (B0.out q))
  clear h
  unfold Ob.val
  simp only
  go_enter Tryz.func68, Tryz.ntmps68
  go_wp2_with fail
  refine (NA.out _).mono ?_
  rintro e w1 ⟨rfl, hb⟩
  have B1 := Lib.hid ((B0.out _).trans (hb.mono (B0.out _).size))
  clear hb NA
  go_wp2_with fail
  go_ret
  exact ⟨rfl, B1.out⟩
theorem hold_2 (o : Ob) (la : Option Addr) (ln lc : Nat) (pa : Option Addr) (pn pc : Nat) (a : Int) (w : World) (h : Pts w (.slice pa pn pc) o.ps) :
    Calls Tryz.prog 70 #[o.val (.slice la ln lc) (.slice pa pn pc), .int .i64 a] w fun e w' => e = .returned (.bool (onamB o.ps)) ∧ Below w.heap.size w w' := by
  obtain ⟨op, on, ols, opr, odl, ops, over⟩ := o
  have B0 := below_alR w
  have NA : Hid (∀ q, Calls Tryz.prog 69 #[.agg #[.string op, .string on, .slice la ln lc, .int .i64 opr, .int .i64 odl, .slice pa pn pc, .int .i64 over]] (w.alloc q) fun e w' => e = .returned (.bool (onamB ops)) ∧ Below (w.alloc q).heap.size (w.alloc q) w') := Lib.hid fun q => namesAny_any ⟨op, on, ols, opr, odl, ops, over⟩ la ln lc pa pn pc _ (h.below (B0.out q))
  clear h
  unfold Ob.val
  simp only
  go_enter Tryz.func70, Tryz.ntmps70
  go_wp2_with fail
  refine (NA.out _).mono ?_
  rintro e w1 ⟨rfl, hb⟩
  have B1 := Lib.hid ((B0.out _).trans (hb.mono (B0.out _).size))
  clear hb NA
  go_wp2_with fail
  go_ret
  exact ⟨rfl, B1.out⟩
theorem hold_3 (o : Ob) (la : Option Addr) (ln lc : Nat) (pa : Option Addr) (pn pc : Nat) (a : Int) (w : World) (h : Pts w (.slice pa pn pc) o.ps) :
    Calls Tryz.prog 71 #[o.val (.slice la ln lc) (.slice pa pn pc), .int .i64 a] w fun e w' => e = .returned (.bool (decide (0 < o.dl))) ∧ Below w.heap.size w w' := by
  obtain ⟨op, on, ols, opr, odl, ops, over⟩ := o
  clear h
  have B0 := below_alR w
  unfold Ob.val
  simp only
  go_enter Tryz.func71, Tryz.ntmps71
  go_wp2_with fail
  go_ret
  exact ⟨by first | rfl | simp, B0.out _⟩
theorem hold_4 (o : Ob) (la : Option Addr) (ln lc : Nat) (pa : Option Addr) (pn pc : Nat) (a : Int) (w : World) (h : Pts w (.slice pa pn pc) o.ps) :
    Calls Tryz.prog 72 #[o.val (.slice la ln lc) (.slice pa pn pc), .int .i64 a] w fun e w' => e = .returned (.bool (decide (o.dl ≤ 0))) ∧ Below w.heap.size w w' := by
  obtain ⟨op, on, ols, opr, odl, ops, over⟩ := o
  clear h
  have B0 := below_alR w
  unfold Ob.val
  simp only
  go_enter Tryz.func72, Tryz.ntmps72
  go_wp2_with fail
  go_ret
  exact ⟨by first | rfl | simp, B0.out _⟩
theorem hold_5 (o : Ob) (la : Option Addr) (ln lc : Nat) (pa : Option Addr) (pn pc : Nat) (a : Int) (w : World) (h : Pts w (.slice pa pn pc) o.ps) :
    Calls Tryz.prog 73 #[o.val (.slice la ln lc) (.slice pa pn pc), .int .i64 a] w fun e w' => e = .returned (.bool (o.pr == a)) ∧ Below w.heap.size w w' := by
  obtain ⟨op, on, ols, opr, odl, ops, over⟩ := o
  clear h
  have B0 := below_alR w
  unfold Ob.val
  simp only
  go_enter Tryz.func73, Tryz.ntmps73
  go_wp2_with fail
  go_ret
  exact ⟨by first | rfl | simp, B0.out _⟩
def fnV (g : Nat) : Value := .func (.func g) #[] #[]
def kindC : Array Value := #[.func (.func 67) #[] #[], .func (.func 68) #[] #[], .func (.func 70) #[] #[], .func (.func 71) #[] #[], .func (.func 72) #[] #[], .func (.func 73) #[] #[]]
theorem kinds_any (w : World) : Calls Tryz.prog 38 #[] w fun e w' => e = .returned (.slice (some ⟨w.heap.size, 0, none⟩) 6 6) ∧ w' = w.alloc (.cells #[.func (.func 67) #[] #[], .func (.func 68) #[] #[], .func (.func 70) #[] #[], .func (.func 71) #[] #[], .func (.func 72) #[] #[], .func (.func 73) #[] #[]] 88) := by
  go_enter Tryz.func38, Tryz.ntmps38
  go_wp2_with fail
  go_ret
  exact ⟨rfl, rfl⟩
set_option maxHeartbeats 4000000 in
set_option maxRecDepth 100000 in
theorem in_any (o : Ob) (la : Option Addr) (ln lc : Nat) (pa : Option Addr) (pn pc : Nat) (k a : Int) (w : World) (hN : Nms w) (h : Pts w (.slice pa pn pc) o.ps) :
    Calls Tryz.prog 20 #[o.val (.slice la ln lc) (.slice pa pn pc), .agg #[.int .i64 k, .int .i64 a]] w fun e w' => e = .returned (.bool (inB o k a)) ∧ Below w.heap.size w w' := by
  obtain ⟨op, on, ols, opr, odl, ops, over⟩ := o
  have H := Lib.hid h
  have HN := Lib.hid hN
  clear h hN
  obtain ⟨X, hX⟩ : ∃ X, X = (w.alloc (.cells #[.string op, .string on, .slice la ln lc, .int .i64 opr, .int .i64 odl, .slice pa pn pc, .int .i64 over] 25)).alloc (.cells #[.int .i64 k, .int .i64 a] 39) := ⟨_, rfl⟩
  have BX : Hid (Below w.heap.size w X) := Lib.hid (by rw [hX]; have q := (below_alR w).out (.cells #[.string op, .string on, .slice la ln lc, .int .i64 opr, .int .i64 odl, .slice pa pn pc, .int .i64 over] 25); exact q.alloc q.size _)
  have HC : (X.cell? ⟨w.heap.size, 0, none⟩ = some (.string op) ∧ X.cell? ⟨w.heap.size, 1, none⟩ = some (.string on) ∧ X.cell? ⟨w.heap.size, 2, none⟩ = some (.slice la ln lc) ∧ X.cell? ⟨w.heap.size, 3, none⟩ = some (.int .i64 opr) ∧ X.cell? ⟨w.heap.size, 4, none⟩ = some (.int .i64 odl) ∧ X.cell? ⟨w.heap.size, 5, none⟩ = some (.slice pa pn pc) ∧ X.cell? ⟨w.heap.size, 6, none⟩ = some (.int .i64 over) ∧ X.cell? ⟨w.heap.size + 1, 0, none⟩ = some (.int .i64 k) ∧ X.cell? ⟨w.heap.size + 1, 1, none⟩ = some (.int .i64 a)) := by
    subst hX
    have q : ∀ j v, (#[.string op, .string on, .slice la ln lc, .int .i64 opr, .int .i64 odl, .slice pa pn pc, .int .i64 over] : Array Value)[j]? = some v → ((w.alloc (.cells #[.string op, .string on, .slice la ln lc, .int .i64 opr, .int .i64 odl, .slice pa pn pc, .int .i64 over] 25)).alloc (.cells #[.int .i64 k, .int .i64 a] 39)).cell? ⟨w.heap.size, j, none⟩ = some v := fun j v hv => cell_al (by rw [World.cell?_alloc_new]; exact hv) _
    have q2 : ∀ j v, (#[.int .i64 k, .int .i64 a] : Array Value)[j]? = some v → ((w.alloc (.cells #[.string op, .string on, .slice la ln lc, .int .i64 opr, .int .i64 odl, .slice pa pn pc, .int .i64 over] 25)).alloc (.cells #[.int .i64 k, .int .i64 a] 39)).cell? ⟨w.heap.size + 1, j, none⟩ = some v := fun j v hv => by
      have e : w.heap.size + 1 = (w.alloc (.cells #[.string op, .string on, .slice la ln lc, .int .i64 opr, .int .i64 odl, .slice pa pn pc, .int .i64 over] 25)).heap.size := by simp
      rw [e, World.cell?_alloc_new]; exact hv
    exact ⟨q 0 _ rfl, q 1 _ rfl, q 2 _ rfl, q 3 _ rfl, q 4 _ rfl, q 5 _ rfl, q 6 _ rfl, q2 0 _ rfl, q2 1 _ rfl⟩
  have KC : Hid (∀ W : World, Below X.heap.size X W → (W.cell? ⟨w.heap.size, 0, none⟩ = some (.string op) ∧ W.cell? ⟨w.heap.size, 1, none⟩ = some (.string on) ∧ W.cell? ⟨w.heap.size, 2, none⟩ = some (.slice la ln lc) ∧ W.cell? ⟨w.heap.size, 3, none⟩ = some (.int .i64 opr) ∧ W.cell? ⟨w.heap.size, 4, none⟩ = some (.int .i64 odl) ∧ W.cell? ⟨w.heap.size, 5, none⟩ = some (.slice pa pn pc) ∧ W.cell? ⟨w.heap.size, 6, none⟩ = some (.int .i64 over) ∧ W.cell? ⟨w.heap.size + 1, 0, none⟩ = some (.int .i64 k) ∧ W.cell? ⟨w.heap.size + 1, 1, none⟩ = some (.int .i64 a))) := Lib.hid fun W hb => by
    obtain ⟨h0, h1, h2, h3, h4, h5, h6, h7, h8⟩ := HC
    exact ⟨(hb.cell (block_lt_of_cell h0)).trans h0, (hb.cell (block_lt_of_cell h1)).trans h1, (hb.cell (block_lt_of_cell h2)).trans h2, (hb.cell (block_lt_of_cell h3)).trans h3, (hb.cell (block_lt_of_cell h4)).trans h4, (hb.cell (block_lt_of_cell h5)).trans h5, (hb.cell (block_lt_of_cell h6)).trans h6, (hb.cell (block_lt_of_cell h7)).trans h7, (hb.cell (block_lt_of_cell h8)).trans h8⟩
  clear HC
  have VA : Hid (∀ W, Below X.heap.size X W → Calls Tryz.prog 37 #[.agg #[.int .i64 k, .int .i64 a]] W fun e w' => e = .returned (.bool (validB k a)) ∧ Below X.heap.size X w') := Lib.hid fun W hb => (valid_any k a W ((HN.out.below BX.out).below hb)).mono fun _ _ ⟨e, hb'⟩ => ⟨e, hb.trans (hb'.mono hb.size)⟩
  unfold Ob.val
  simp only
  have EX := Lib.hid hX
  clear hX
  go_enter Tryz.func20, Tryz.ntmps20
  go_wp2_with fail
  rw [← EX.out]
  clear EX
  have BD : Hid (Below X.heap.size X X.drew) := Lib.hid (below_drawn X 1)
  cases hv : validB k a with
  | false =>
    have VF : Hid (∀ d os, Calls Tryz.prog 37 #[.agg #[.int .i64 k, .int .i64 a]] (grow (redrawn X d) os) fun e w'' => e = .returned (.bool false) ∧ ∃ p : Regrown, w'' = grow (redrawn X p.d) p.os) := Lib.hid fun d os => by
      rw [← hv]
      exact Calls.regrown_of (valid_any k a _ ((HN.out.below BX.out).below (below_regrown X d os)))
    have E : Hid (inB ⟨op, on, ols, opr, odl, ops, over⟩ k a = false) := Lib.hid (by unfold inB; rw [hv]; rfl)
    obtain ⟨h0, h1, h2, h3, h4, h5, h6, h7, h8⟩ := KC.out X (Below.refl _ _)
    have r7 := reg h7
    have r8 := reg h8
    clear hv h0 h1 h2 h3 h4 h5 h6 h7 h8
    go_wp2_with fail
    refine wp_region_quiet_below (by kernel_rfl) (by kernel_rfl) ?_
    repeat (go_big_quiet_step (refine VF.out _ _))
    refine wpQuiet_nil ?_
    rintro _ ⟨⟨dq, osq⟩, hw''⟩
    subst hw''
    go_wp2_with fail
    go_ret
    exact ⟨by rw [E.out]; rfl, BX.out.trans ((below_regrown X dq osq).mono BX.out.size)⟩
  | true =>
    have hk : 0 ≤ k ∧ k < 6 := by unfold validB at hv; have := of_decide_eq_true hv; omega
    have VT : Hid (∀ W, Below X.heap.size X W → Calls Tryz.prog 37 #[.agg #[.int .i64 k, .int .i64 a]] W fun e w' => e = .returned (.bool true) ∧ Below X.heap.size X w') := Lib.hid (by rw [← hv]; exact VA.out)
    have EI : Hid (inB ⟨op, on, ols, opr, odl, ops, over⟩ k a = holdB ⟨op, on, ols, opr, odl, ops, over⟩ k.toNat a) := Lib.hid (by unfold inB; rw [hv]; rfl)
    clear hv VA
    rcases kind_cases k hk.1 hk.2 with rfl | rfl | rfl | rfl | rfl | rfl
    all_goals clear hk
    · have KI : Hid (∀ W, Below X.heap.size X W → Calls Tryz.prog 38 #[] W fun e w' => ∃ gk, e = .returned (.slice (some ⟨gk, 0, none⟩) 6 6) ∧ w'.cell? ⟨gk, 0, none⟩ = some (.func (.func 67) #[] #[]) ∧ Below X.heap.size X w') := Lib.hid fun W hb => (kinds_any W).mono fun e w' ⟨e1, e2⟩ => ⟨_, e1, by rw [e2, World.cell?_alloc_new]; rfl, by rw [e2]; exact hb.alloc hb.size _⟩
      have HO : Hid (∀ W, Below X.heap.size X W → Calls Tryz.prog 67 #[.agg #[.string op, .string on, .slice la ln lc, .int .i64 opr, .int .i64 odl, .slice pa pn pc, .int .i64 over], .int .i64 a] W fun e w' => e = .returned (.bool true) ∧ Below X.heap.size X w') := Lib.hid fun W hb => (hold_0 ⟨op, on, ols, opr, odl, ops, over⟩ la ln lc pa pn pc a W ((H.out.below BX.out).below hb)).mono fun _ _ ⟨e, hb'⟩ => ⟨e, hb.trans (hb'.mono hb.size)⟩
      go_wp2_with fail
      refine wp_region_held_drew (S := fun W : World => (W.cell? ⟨w.heap.size, 0, none⟩ = some (.string op) ∧ W.cell? ⟨w.heap.size, 1, none⟩ = some (.string on) ∧ W.cell? ⟨w.heap.size, 2, none⟩ = some (.slice la ln lc) ∧ W.cell? ⟨w.heap.size, 3, none⟩ = some (.int .i64 opr) ∧ W.cell? ⟨w.heap.size, 4, none⟩ = some (.int .i64 odl) ∧ W.cell? ⟨w.heap.size, 5, none⟩ = some (.slice pa pn pc) ∧ W.cell? ⟨w.heap.size, 6, none⟩ = some (.int .i64 over) ∧ W.cell? ⟨w.heap.size + 1, 0, none⟩ = some (.int .i64 0) ∧ W.cell? ⟨w.heap.size + 1, 1, none⟩ = some (.int .i64 a))) (by kernel_rfl) (KC.out _ BD.out) (fun hHeld => ?_)
      refine wpAnyH_take (i := 0) (oi := { dst := some 5, op := Go.Op.load 39 (Go.Operand.tmp 3), type := 39, pos := "scope.go:75", after := #[], guard := none }) (v := ?_) rfl (by kernel_rfl) (by kernel_rfl) (by kernel_rfl) (fun _ _ _ h => h) (Or.inl ⟨by rfl, ?hy⟩) (by assumption) ?_
      case hy => (intro W hSw; (try dsimp only at hSw); go_simp; try (with_reducible rfl))
      try simp only [Act.put, List.setIfInBounds_toArray, List.set_cons_zero, List.set_cons_succ]
      refine wpAnyH_ready (rs := [1]) (by kernel_rfl) (by simp) ?_
      refine AllReadyH.cons (o := { dst := some 6, op := Go.Op.call { callee := Go.Callee.value (Go.Operand.func 37), args := #[Go.Operand.tmp 5], argTypes := #[39] }, type := 4, pos := "scope.go:75", after := #[{ on := 0, ground := Go.Ground.data }], guard := none }) rfl (fun K hK => ?_) AllReadyH.nil
      go_simp
      refine (VT.out _ BD.out).mono ?_
      rintro e w1 ⟨rfl, hb1⟩
      refine hK.out _ _ (KC.out _ hb1) (fun hHeld => ?_)
      clear hK K
      try simp only [Act.put, List.setIfInBounds_toArray, List.set_cons_zero, List.set_cons_succ]
      refine wpAnyH_take (i := 2) (oi := { dst := some 7, op := Go.Op.move (Go.Operand.tmp 6), type := 4, pos := "scope.go:75", after := #[{ on := 1, ground := Go.Ground.data }, { on := 1, ground := Go.Ground.chain }], guard := none }) (v := ?_) rfl (by kernel_rfl) (by kernel_rfl) (by kernel_rfl) (fun _ _ _ h => h) (Or.inl ⟨by rfl, ?hy⟩) (by assumption) ?_
      case hy => (intro W hSw; (try dsimp only at hSw); go_simp; try (with_reducible rfl))
      try simp only [Act.put, List.setIfInBounds_toArray, List.set_cons_zero, List.set_cons_succ]
      refine wpAnyH_take (i := 4) (oi := { dst := some 9, op := Go.Op.fieldAddr 39 (Go.Operand.tmp 3) 0, type := 0, pos := "scope.go:75", after := #[{ on := 2, ground := Go.Ground.guard }], guard := some (2, true) }) (v := ?_) rfl (by kernel_rfl) (by kernel_rfl) (by kernel_rfl) (fun _ _ _ h => h) (Or.inl ⟨by rfl, ?hy⟩) (by assumption) ?_
      case hy => (intro W hSw; (try dsimp only at hSw); go_simp; try (with_reducible rfl))
      try simp only [Act.put, List.setIfInBounds_toArray, List.set_cons_zero, List.set_cons_succ]
      refine wpAnyH_take (i := 5) (oi := { dst := some 10, op := Go.Op.load 3 (Go.Operand.tmp 9), type := 3, pos := "scope.go:75", after := #[{ on := 4, ground := Go.Ground.data }, { on := 2, ground := Go.Ground.guard }], guard := some (2, true) }) (v := ?_) rfl (by kernel_rfl) (by kernel_rfl) (by kernel_rfl) (fun _ _ _ h => h) (Or.inl ⟨by rfl, ?hy⟩) (by assumption) ?_
      case hy => (intro W hSw; (try dsimp only at hSw); go_simp; try (with_reducible rfl))
      try simp only [Act.put, List.setIfInBounds_toArray, List.set_cons_zero, List.set_cons_succ]
      refine wpAnyH_take (i := 9) (oi := { dst := some 14, op := Go.Op.load 25 (Go.Operand.tmp 2), type := 25, pos := "scope.go:75", after := #[{ on := 2, ground := Go.Ground.guard }], guard := some (2, true) }) (v := ?_) rfl (by kernel_rfl) (by kernel_rfl) (by kernel_rfl) (fun _ _ _ h => h) (Or.inl ⟨by rfl, ?hy⟩) (by assumption) ?_
      case hy => (intro W hSw; (try dsimp only at hSw); go_simp; try (with_reducible rfl))
      try simp only [Act.put, List.setIfInBounds_toArray, List.set_cons_zero, List.set_cons_succ]
      refine wpAnyH_take (i := 10) (oi := { dst := some 15, op := Go.Op.fieldAddr 39 (Go.Operand.tmp 3) 1, type := 0, pos := "scope.go:75", after := #[{ on := 2, ground := Go.Ground.guard }], guard := some (2, true) }) (v := ?_) rfl (by kernel_rfl) (by kernel_rfl) (by kernel_rfl) (fun _ _ _ h => h) (Or.inl ⟨by rfl, ?hy⟩) (by assumption) ?_
      case hy => (intro W hSw; (try dsimp only at hSw); go_simp; try (with_reducible rfl))
      try simp only [Act.put, List.setIfInBounds_toArray, List.set_cons_zero, List.set_cons_succ]
      refine wpAnyH_take (i := 11) (oi := { dst := some 16, op := Go.Op.load 3 (Go.Operand.tmp 15), type := 3, pos := "scope.go:75", after := #[{ on := 10, ground := Go.Ground.data }, { on := 2, ground := Go.Ground.guard }], guard := some (2, true) }) (v := ?_) rfl (by kernel_rfl) (by kernel_rfl) (by kernel_rfl) (fun _ _ _ h => h) (Or.inl ⟨by rfl, ?hy⟩) (by assumption) ?_
      case hy => (intro W hSw; (try dsimp only at hSw); go_simp; try (with_reducible rfl))
      try simp only [Act.put, List.setIfInBounds_toArray, List.set_cons_zero, List.set_cons_succ]
      refine wpAnyH_ready (rs := [3]) (by kernel_rfl) (by simp) ?_
      refine AllReadyH.cons (o := { dst := some 8, op := Go.Op.call { callee := Go.Callee.value (Go.Operand.func 38), args := #[], argTypes := #[] }, type := 89, pos := "scope.go:75", after := #[{ on := 2, ground := Go.Ground.chain }, { on := 2, ground := Go.Ground.guard }], guard := some (2, true) }) rfl (fun K hK => ?_) AllReadyH.nil
      go_simp
      refine (KI.out _ hb1).mono ?_
      rintro e w2 ⟨gk, rfl, c2, hb2⟩
      refine hK.out _ _ (KC.out _ hb2) (fun hHeld => ?_)
      clear hK K
      try simp only [Act.put, List.setIfInBounds_toArray, List.set_cons_zero, List.set_cons_succ]
      refine wpAnyH_take (i := 6) (oi := { dst := some 11, op := Go.Op.indexAddr 89 (Go.Operand.tmp 8) (Go.Operand.tmp 10), type := 0, pos := "scope.go:75", after := #[{ on := 3, ground := Go.Ground.data }, { on := 5, ground := Go.Ground.data }, { on := 2, ground := Go.Ground.guard }], guard := some (2, true) }) (v := ?_) rfl (by kernel_rfl) (by kernel_rfl) (by kernel_rfl) (fun _ _ _ h => h) (Or.inl ⟨by rfl, ?hy⟩) (by assumption) ?_
      case hy => (intro W hSw; (try dsimp only at hSw); go_simp; try (with_reducible rfl))
      try simp only [Act.put, List.setIfInBounds_toArray, List.set_cons_zero, List.set_cons_succ]
      refine wpAnyH_take (i := 7) (oi := { dst := some 12, op := Go.Op.fieldAddr 88 (Go.Operand.tmp 11) 0, type := 0, pos := "scope.go:75", after := #[{ on := 6, ground := Go.Ground.data }, { on := 2, ground := Go.Ground.guard }], guard := some (2, true) }) (v := ?_) rfl (by kernel_rfl) (by kernel_rfl) (by kernel_rfl) (fun _ _ _ h => h) (Or.inl ⟨by rfl, ?hy⟩) (by assumption) ?_
      case hy => (intro W hSw; (try dsimp only at hSw); go_simp; try (with_reducible rfl))
      try simp only [Act.put, List.setIfInBounds_toArray, List.set_cons_zero, List.set_cons_succ]
      refine wpAnyH_ready (rs := [8]) (by kernel_rfl) (by simp) ?_
      refine AllReadyH.cons (o := { dst := some 13, op := Go.Op.load 86 (Go.Operand.tmp 12), type := 86, pos := "scope.go:75", after := #[{ on := 7, ground := Go.Ground.data }, { on := 2, ground := Go.Ground.guard }], guard := some (2, true) }) rfl (fun K hK => ?_) AllReadyH.nil
      go_simp
      refine hK.out _ _ (KC.out _ hb2) (fun hHeld => ?_)
      clear hK K
      try simp only [Act.put, List.setIfInBounds_toArray, List.set_cons_zero, List.set_cons_succ]
      refine wpAnyH_ready (rs := [12]) (by kernel_rfl) (by simp) ?_
      refine AllReadyH.cons (o := { dst := some 17, op := Go.Op.call { callee := Go.Callee.value (Go.Operand.tmp 13), args := #[Go.Operand.tmp 14, Go.Operand.tmp 16], argTypes := #[25, 3] }, type := 4, pos := "scope.go:75", after := #[{ on := 8, ground := Go.Ground.data }, { on := 9, ground := Go.Ground.data }, { on := 11, ground := Go.Ground.data }, { on := 3, ground := Go.Ground.chain }, { on := 2, ground := Go.Ground.guard }], guard := some (2, true) }) rfl (fun K hK => ?_) AllReadyH.nil
      go_simp
      refine (HO.out _ hb2).mono ?_
      rintro e w3 ⟨rfl, hb3⟩
      refine hK.out _ _ (KC.out _ hb3) (fun hHeld => ?_)
      clear hK K
      try simp only [Act.put, List.setIfInBounds_toArray, List.set_cons_zero, List.set_cons_succ]
      refine wpAnyH_take (i := 13) (oi := { dst := some 18, op := Go.Op.pick (Go.Operand.tmp 7) (Go.Operand.tmp 17) (Go.Operand.const (Go.Value.bool false)), type := 4, pos := "scope.go:75", after := #[{ on := 2, ground := Go.Ground.data }, { on := 12, ground := Go.Ground.data }], guard := none }) (v := ?_) rfl (by kernel_rfl) (by kernel_rfl) (by kernel_rfl) (fun _ _ _ h => h) (Or.inl ⟨by rfl, ?hy⟩) (by assumption) ?_
      case hy => (intro W hSw; (try dsimp only at hSw); go_simp; try (with_reducible rfl))
      try simp only [Act.put, List.setIfInBounds_toArray, List.set_cons_zero, List.set_cons_succ]
      refine wpAnyH_take (i := 14) (oi := { dst := some 4, op := Go.Op.assign (Go.Operand.tmp 18), type := 4, pos := "scope.go:75", after := #[{ on := 13, ground := Go.Ground.data }, { on := 12, ground := Go.Ground.chain }, { on := 0, ground := Go.Ground.phase }, { on := 1, ground := Go.Ground.phase }, { on := 2, ground := Go.Ground.phase }, { on := 3, ground := Go.Ground.phase }, { on := 4, ground := Go.Ground.phase }, { on := 5, ground := Go.Ground.phase }, { on := 6, ground := Go.Ground.phase }, { on := 7, ground := Go.Ground.phase }, { on := 8, ground := Go.Ground.phase }, { on := 9, ground := Go.Ground.phase }, { on := 10, ground := Go.Ground.phase }, { on := 11, ground := Go.Ground.phase }, { on := 12, ground := Go.Ground.phase }, { on := 13, ground := Go.Ground.phase }], guard := none }) (v := ?_) rfl (by kernel_rfl) (by kernel_rfl) (by kernel_rfl) (fun _ _ _ h => h) (Or.inl ⟨by rfl, ?hy⟩) (by assumption) ?_
      case hy => (intro W hSw; (try dsimp only at hSw); go_simp; try (with_reducible rfl))
      try simp only [Act.put, List.setIfInBounds_toArray, List.set_cons_zero, List.set_cons_succ]
      refine wpAnyH_done (by kernel_rfl) ?_ _
      have B3 : Hid (Below w.heap.size w w3) := Lib.hid (BX.out.trans (hb3.mono BX.out.size))
      clear hb1 hb2 hb3 c2
      go_wp2_with fail
      go_ret
      exact ⟨by rw [EI.out]; rfl, B3.out⟩
    · have KI : Hid (∀ W, Below X.heap.size X W → Calls Tryz.prog 38 #[] W fun e w' => ∃ gk, e = .returned (.slice (some ⟨gk, 0, none⟩) 6 6) ∧ w'.cell? ⟨gk, 1, none⟩ = some (.func (.func 68) #[] #[]) ∧ Below X.heap.size X w') := Lib.hid fun W hb => (kinds_any W).mono fun e w' ⟨e1, e2⟩ => ⟨_, e1, by rw [e2, World.cell?_alloc_new]; rfl, by rw [e2]; exact hb.alloc hb.size _⟩
      have HO : Hid (∀ W, Below X.heap.size X W → Calls Tryz.prog 68 #[.agg #[.string op, .string on, .slice la ln lc, .int .i64 opr, .int .i64 odl, .slice pa pn pc, .int .i64 over], .int .i64 a] W fun e w' => e = .returned (.bool (!onamB ops)) ∧ Below X.heap.size X w') := Lib.hid fun W hb => (hold_1 ⟨op, on, ols, opr, odl, ops, over⟩ la ln lc pa pn pc a W ((H.out.below BX.out).below hb)).mono fun _ _ ⟨e, hb'⟩ => ⟨e, hb.trans (hb'.mono hb.size)⟩
      go_wp2_with fail
      refine wp_region_held_drew (S := fun W : World => (W.cell? ⟨w.heap.size, 0, none⟩ = some (.string op) ∧ W.cell? ⟨w.heap.size, 1, none⟩ = some (.string on) ∧ W.cell? ⟨w.heap.size, 2, none⟩ = some (.slice la ln lc) ∧ W.cell? ⟨w.heap.size, 3, none⟩ = some (.int .i64 opr) ∧ W.cell? ⟨w.heap.size, 4, none⟩ = some (.int .i64 odl) ∧ W.cell? ⟨w.heap.size, 5, none⟩ = some (.slice pa pn pc) ∧ W.cell? ⟨w.heap.size, 6, none⟩ = some (.int .i64 over) ∧ W.cell? ⟨w.heap.size + 1, 0, none⟩ = some (.int .i64 1) ∧ W.cell? ⟨w.heap.size + 1, 1, none⟩ = some (.int .i64 a))) (by kernel_rfl) (KC.out _ BD.out) (fun hHeld => ?_)
      refine wpAnyH_take (i := 0) (oi := { dst := some 5, op := Go.Op.load 39 (Go.Operand.tmp 3), type := 39, pos := "scope.go:75", after := #[], guard := none }) (v := ?_) rfl (by kernel_rfl) (by kernel_rfl) (by kernel_rfl) (fun _ _ _ h => h) (Or.inl ⟨by rfl, ?hy⟩) (by assumption) ?_
      case hy => (intro W hSw; (try dsimp only at hSw); go_simp; try (with_reducible rfl))
      try simp only [Act.put, List.setIfInBounds_toArray, List.set_cons_zero, List.set_cons_succ]
      refine wpAnyH_ready (rs := [1]) (by kernel_rfl) (by simp) ?_
      refine AllReadyH.cons (o := { dst := some 6, op := Go.Op.call { callee := Go.Callee.value (Go.Operand.func 37), args := #[Go.Operand.tmp 5], argTypes := #[39] }, type := 4, pos := "scope.go:75", after := #[{ on := 0, ground := Go.Ground.data }], guard := none }) rfl (fun K hK => ?_) AllReadyH.nil
      go_simp
      refine (VT.out _ BD.out).mono ?_
      rintro e w1 ⟨rfl, hb1⟩
      refine hK.out _ _ (KC.out _ hb1) (fun hHeld => ?_)
      clear hK K
      try simp only [Act.put, List.setIfInBounds_toArray, List.set_cons_zero, List.set_cons_succ]
      refine wpAnyH_take (i := 2) (oi := { dst := some 7, op := Go.Op.move (Go.Operand.tmp 6), type := 4, pos := "scope.go:75", after := #[{ on := 1, ground := Go.Ground.data }, { on := 1, ground := Go.Ground.chain }], guard := none }) (v := ?_) rfl (by kernel_rfl) (by kernel_rfl) (by kernel_rfl) (fun _ _ _ h => h) (Or.inl ⟨by rfl, ?hy⟩) (by assumption) ?_
      case hy => (intro W hSw; (try dsimp only at hSw); go_simp; try (with_reducible rfl))
      try simp only [Act.put, List.setIfInBounds_toArray, List.set_cons_zero, List.set_cons_succ]
      refine wpAnyH_take (i := 4) (oi := { dst := some 9, op := Go.Op.fieldAddr 39 (Go.Operand.tmp 3) 0, type := 0, pos := "scope.go:75", after := #[{ on := 2, ground := Go.Ground.guard }], guard := some (2, true) }) (v := ?_) rfl (by kernel_rfl) (by kernel_rfl) (by kernel_rfl) (fun _ _ _ h => h) (Or.inl ⟨by rfl, ?hy⟩) (by assumption) ?_
      case hy => (intro W hSw; (try dsimp only at hSw); go_simp; try (with_reducible rfl))
      try simp only [Act.put, List.setIfInBounds_toArray, List.set_cons_zero, List.set_cons_succ]
      refine wpAnyH_take (i := 5) (oi := { dst := some 10, op := Go.Op.load 3 (Go.Operand.tmp 9), type := 3, pos := "scope.go:75", after := #[{ on := 4, ground := Go.Ground.data }, { on := 2, ground := Go.Ground.guard }], guard := some (2, true) }) (v := ?_) rfl (by kernel_rfl) (by kernel_rfl) (by kernel_rfl) (fun _ _ _ h => h) (Or.inl ⟨by rfl, ?hy⟩) (by assumption) ?_
      case hy => (intro W hSw; (try dsimp only at hSw); go_simp; try (with_reducible rfl))
      try simp only [Act.put, List.setIfInBounds_toArray, List.set_cons_zero, List.set_cons_succ]
      refine wpAnyH_take (i := 9) (oi := { dst := some 14, op := Go.Op.load 25 (Go.Operand.tmp 2), type := 25, pos := "scope.go:75", after := #[{ on := 2, ground := Go.Ground.guard }], guard := some (2, true) }) (v := ?_) rfl (by kernel_rfl) (by kernel_rfl) (by kernel_rfl) (fun _ _ _ h => h) (Or.inl ⟨by rfl, ?hy⟩) (by assumption) ?_
      case hy => (intro W hSw; (try dsimp only at hSw); go_simp; try (with_reducible rfl))
      try simp only [Act.put, List.setIfInBounds_toArray, List.set_cons_zero, List.set_cons_succ]
      refine wpAnyH_take (i := 10) (oi := { dst := some 15, op := Go.Op.fieldAddr 39 (Go.Operand.tmp 3) 1, type := 0, pos := "scope.go:75", after := #[{ on := 2, ground := Go.Ground.guard }], guard := some (2, true) }) (v := ?_) rfl (by kernel_rfl) (by kernel_rfl) (by kernel_rfl) (fun _ _ _ h => h) (Or.inl ⟨by rfl, ?hy⟩) (by assumption) ?_
      case hy => (intro W hSw; (try dsimp only at hSw); go_simp; try (with_reducible rfl))
      try simp only [Act.put, List.setIfInBounds_toArray, List.set_cons_zero, List.set_cons_succ]
      refine wpAnyH_take (i := 11) (oi := { dst := some 16, op := Go.Op.load 3 (Go.Operand.tmp 15), type := 3, pos := "scope.go:75", after := #[{ on := 10, ground := Go.Ground.data }, { on := 2, ground := Go.Ground.guard }], guard := some (2, true) }) (v := ?_) rfl (by kernel_rfl) (by kernel_rfl) (by kernel_rfl) (fun _ _ _ h => h) (Or.inl ⟨by rfl, ?hy⟩) (by assumption) ?_
      case hy => (intro W hSw; (try dsimp only at hSw); go_simp; try (with_reducible rfl))
      try simp only [Act.put, List.setIfInBounds_toArray, List.set_cons_zero, List.set_cons_succ]
      refine wpAnyH_ready (rs := [3]) (by kernel_rfl) (by simp) ?_
      refine AllReadyH.cons (o := { dst := some 8, op := Go.Op.call { callee := Go.Callee.value (Go.Operand.func 38), args := #[], argTypes := #[] }, type := 89, pos := "scope.go:75", after := #[{ on := 2, ground := Go.Ground.chain }, { on := 2, ground := Go.Ground.guard }], guard := some (2, true) }) rfl (fun K hK => ?_) AllReadyH.nil
      go_simp
      refine (KI.out _ hb1).mono ?_
      rintro e w2 ⟨gk, rfl, c2, hb2⟩
      refine hK.out _ _ (KC.out _ hb2) (fun hHeld => ?_)
      clear hK K
      try simp only [Act.put, List.setIfInBounds_toArray, List.set_cons_zero, List.set_cons_succ]
      refine wpAnyH_take (i := 6) (oi := { dst := some 11, op := Go.Op.indexAddr 89 (Go.Operand.tmp 8) (Go.Operand.tmp 10), type := 0, pos := "scope.go:75", after := #[{ on := 3, ground := Go.Ground.data }, { on := 5, ground := Go.Ground.data }, { on := 2, ground := Go.Ground.guard }], guard := some (2, true) }) (v := ?_) rfl (by kernel_rfl) (by kernel_rfl) (by kernel_rfl) (fun _ _ _ h => h) (Or.inl ⟨by rfl, ?hy⟩) (by assumption) ?_
      case hy => (intro W hSw; (try dsimp only at hSw); go_simp; try (with_reducible rfl))
      try simp only [Act.put, List.setIfInBounds_toArray, List.set_cons_zero, List.set_cons_succ]
      refine wpAnyH_take (i := 7) (oi := { dst := some 12, op := Go.Op.fieldAddr 88 (Go.Operand.tmp 11) 0, type := 0, pos := "scope.go:75", after := #[{ on := 6, ground := Go.Ground.data }, { on := 2, ground := Go.Ground.guard }], guard := some (2, true) }) (v := ?_) rfl (by kernel_rfl) (by kernel_rfl) (by kernel_rfl) (fun _ _ _ h => h) (Or.inl ⟨by rfl, ?hy⟩) (by assumption) ?_
      case hy => (intro W hSw; (try dsimp only at hSw); go_simp; try (with_reducible rfl))
      try simp only [Act.put, List.setIfInBounds_toArray, List.set_cons_zero, List.set_cons_succ]
      refine wpAnyH_ready (rs := [8]) (by kernel_rfl) (by simp) ?_
      refine AllReadyH.cons (o := { dst := some 13, op := Go.Op.load 86 (Go.Operand.tmp 12), type := 86, pos := "scope.go:75", after := #[{ on := 7, ground := Go.Ground.data }, { on := 2, ground := Go.Ground.guard }], guard := some (2, true) }) rfl (fun K hK => ?_) AllReadyH.nil
      go_simp
      refine hK.out _ _ (KC.out _ hb2) (fun hHeld => ?_)
      clear hK K
      try simp only [Act.put, List.setIfInBounds_toArray, List.set_cons_zero, List.set_cons_succ]
      refine wpAnyH_ready (rs := [12]) (by kernel_rfl) (by simp) ?_
      refine AllReadyH.cons (o := { dst := some 17, op := Go.Op.call { callee := Go.Callee.value (Go.Operand.tmp 13), args := #[Go.Operand.tmp 14, Go.Operand.tmp 16], argTypes := #[25, 3] }, type := 4, pos := "scope.go:75", after := #[{ on := 8, ground := Go.Ground.data }, { on := 9, ground := Go.Ground.data }, { on := 11, ground := Go.Ground.data }, { on := 3, ground := Go.Ground.chain }, { on := 2, ground := Go.Ground.guard }], guard := some (2, true) }) rfl (fun K hK => ?_) AllReadyH.nil
      go_simp
      refine (HO.out _ hb2).mono ?_
      rintro e w3 ⟨rfl, hb3⟩
      refine hK.out _ _ (KC.out _ hb3) (fun hHeld => ?_)
      clear hK K
      try simp only [Act.put, List.setIfInBounds_toArray, List.set_cons_zero, List.set_cons_succ]
      refine wpAnyH_take (i := 13) (oi := { dst := some 18, op := Go.Op.pick (Go.Operand.tmp 7) (Go.Operand.tmp 17) (Go.Operand.const (Go.Value.bool false)), type := 4, pos := "scope.go:75", after := #[{ on := 2, ground := Go.Ground.data }, { on := 12, ground := Go.Ground.data }], guard := none }) (v := ?_) rfl (by kernel_rfl) (by kernel_rfl) (by kernel_rfl) (fun _ _ _ h => h) (Or.inl ⟨by rfl, ?hy⟩) (by assumption) ?_
      case hy => (intro W hSw; (try dsimp only at hSw); go_simp; try (with_reducible rfl))
      try simp only [Act.put, List.setIfInBounds_toArray, List.set_cons_zero, List.set_cons_succ]
      refine wpAnyH_take (i := 14) (oi := { dst := some 4, op := Go.Op.assign (Go.Operand.tmp 18), type := 4, pos := "scope.go:75", after := #[{ on := 13, ground := Go.Ground.data }, { on := 12, ground := Go.Ground.chain }, { on := 0, ground := Go.Ground.phase }, { on := 1, ground := Go.Ground.phase }, { on := 2, ground := Go.Ground.phase }, { on := 3, ground := Go.Ground.phase }, { on := 4, ground := Go.Ground.phase }, { on := 5, ground := Go.Ground.phase }, { on := 6, ground := Go.Ground.phase }, { on := 7, ground := Go.Ground.phase }, { on := 8, ground := Go.Ground.phase }, { on := 9, ground := Go.Ground.phase }, { on := 10, ground := Go.Ground.phase }, { on := 11, ground := Go.Ground.phase }, { on := 12, ground := Go.Ground.phase }, { on := 13, ground := Go.Ground.phase }], guard := none }) (v := ?_) rfl (by kernel_rfl) (by kernel_rfl) (by kernel_rfl) (fun _ _ _ h => h) (Or.inl ⟨by rfl, ?hy⟩) (by assumption) ?_
      case hy => (intro W hSw; (try dsimp only at hSw); go_simp; try (with_reducible rfl))
      try simp only [Act.put, List.setIfInBounds_toArray, List.set_cons_zero, List.set_cons_succ]
      refine wpAnyH_done (by kernel_rfl) ?_ _
      have B3 : Hid (Below w.heap.size w w3) := Lib.hid (BX.out.trans (hb3.mono BX.out.size))
      clear hb1 hb2 hb3 c2
      go_wp2_with fail
      go_ret
      exact ⟨by rw [EI.out]; rfl, B3.out⟩
    · have KI : Hid (∀ W, Below X.heap.size X W → Calls Tryz.prog 38 #[] W fun e w' => ∃ gk, e = .returned (.slice (some ⟨gk, 0, none⟩) 6 6) ∧ w'.cell? ⟨gk, 2, none⟩ = some (.func (.func 70) #[] #[]) ∧ Below X.heap.size X w') := Lib.hid fun W hb => (kinds_any W).mono fun e w' ⟨e1, e2⟩ => ⟨_, e1, by rw [e2, World.cell?_alloc_new]; rfl, by rw [e2]; exact hb.alloc hb.size _⟩
      have HO : Hid (∀ W, Below X.heap.size X W → Calls Tryz.prog 70 #[.agg #[.string op, .string on, .slice la ln lc, .int .i64 opr, .int .i64 odl, .slice pa pn pc, .int .i64 over], .int .i64 a] W fun e w' => e = .returned (.bool (onamB ops)) ∧ Below X.heap.size X w') := Lib.hid fun W hb => (hold_2 ⟨op, on, ols, opr, odl, ops, over⟩ la ln lc pa pn pc a W ((H.out.below BX.out).below hb)).mono fun _ _ ⟨e, hb'⟩ => ⟨e, hb.trans (hb'.mono hb.size)⟩
      go_wp2_with fail
      refine wp_region_held_drew (S := fun W : World => (W.cell? ⟨w.heap.size, 0, none⟩ = some (.string op) ∧ W.cell? ⟨w.heap.size, 1, none⟩ = some (.string on) ∧ W.cell? ⟨w.heap.size, 2, none⟩ = some (.slice la ln lc) ∧ W.cell? ⟨w.heap.size, 3, none⟩ = some (.int .i64 opr) ∧ W.cell? ⟨w.heap.size, 4, none⟩ = some (.int .i64 odl) ∧ W.cell? ⟨w.heap.size, 5, none⟩ = some (.slice pa pn pc) ∧ W.cell? ⟨w.heap.size, 6, none⟩ = some (.int .i64 over) ∧ W.cell? ⟨w.heap.size + 1, 0, none⟩ = some (.int .i64 2) ∧ W.cell? ⟨w.heap.size + 1, 1, none⟩ = some (.int .i64 a))) (by kernel_rfl) (KC.out _ BD.out) (fun hHeld => ?_)
      refine wpAnyH_take (i := 0) (oi := { dst := some 5, op := Go.Op.load 39 (Go.Operand.tmp 3), type := 39, pos := "scope.go:75", after := #[], guard := none }) (v := ?_) rfl (by kernel_rfl) (by kernel_rfl) (by kernel_rfl) (fun _ _ _ h => h) (Or.inl ⟨by rfl, ?hy⟩) (by assumption) ?_
      case hy => (intro W hSw; (try dsimp only at hSw); go_simp; try (with_reducible rfl))
      try simp only [Act.put, List.setIfInBounds_toArray, List.set_cons_zero, List.set_cons_succ]
      refine wpAnyH_ready (rs := [1]) (by kernel_rfl) (by simp) ?_
      refine AllReadyH.cons (o := { dst := some 6, op := Go.Op.call { callee := Go.Callee.value (Go.Operand.func 37), args := #[Go.Operand.tmp 5], argTypes := #[39] }, type := 4, pos := "scope.go:75", after := #[{ on := 0, ground := Go.Ground.data }], guard := none }) rfl (fun K hK => ?_) AllReadyH.nil
      go_simp
      refine (VT.out _ BD.out).mono ?_
      rintro e w1 ⟨rfl, hb1⟩
      refine hK.out _ _ (KC.out _ hb1) (fun hHeld => ?_)
      clear hK K
      try simp only [Act.put, List.setIfInBounds_toArray, List.set_cons_zero, List.set_cons_succ]
      refine wpAnyH_take (i := 2) (oi := { dst := some 7, op := Go.Op.move (Go.Operand.tmp 6), type := 4, pos := "scope.go:75", after := #[{ on := 1, ground := Go.Ground.data }, { on := 1, ground := Go.Ground.chain }], guard := none }) (v := ?_) rfl (by kernel_rfl) (by kernel_rfl) (by kernel_rfl) (fun _ _ _ h => h) (Or.inl ⟨by rfl, ?hy⟩) (by assumption) ?_
      case hy => (intro W hSw; (try dsimp only at hSw); go_simp; try (with_reducible rfl))
      try simp only [Act.put, List.setIfInBounds_toArray, List.set_cons_zero, List.set_cons_succ]
      refine wpAnyH_take (i := 4) (oi := { dst := some 9, op := Go.Op.fieldAddr 39 (Go.Operand.tmp 3) 0, type := 0, pos := "scope.go:75", after := #[{ on := 2, ground := Go.Ground.guard }], guard := some (2, true) }) (v := ?_) rfl (by kernel_rfl) (by kernel_rfl) (by kernel_rfl) (fun _ _ _ h => h) (Or.inl ⟨by rfl, ?hy⟩) (by assumption) ?_
      case hy => (intro W hSw; (try dsimp only at hSw); go_simp; try (with_reducible rfl))
      try simp only [Act.put, List.setIfInBounds_toArray, List.set_cons_zero, List.set_cons_succ]
      refine wpAnyH_take (i := 5) (oi := { dst := some 10, op := Go.Op.load 3 (Go.Operand.tmp 9), type := 3, pos := "scope.go:75", after := #[{ on := 4, ground := Go.Ground.data }, { on := 2, ground := Go.Ground.guard }], guard := some (2, true) }) (v := ?_) rfl (by kernel_rfl) (by kernel_rfl) (by kernel_rfl) (fun _ _ _ h => h) (Or.inl ⟨by rfl, ?hy⟩) (by assumption) ?_
      case hy => (intro W hSw; (try dsimp only at hSw); go_simp; try (with_reducible rfl))
      try simp only [Act.put, List.setIfInBounds_toArray, List.set_cons_zero, List.set_cons_succ]
      refine wpAnyH_take (i := 9) (oi := { dst := some 14, op := Go.Op.load 25 (Go.Operand.tmp 2), type := 25, pos := "scope.go:75", after := #[{ on := 2, ground := Go.Ground.guard }], guard := some (2, true) }) (v := ?_) rfl (by kernel_rfl) (by kernel_rfl) (by kernel_rfl) (fun _ _ _ h => h) (Or.inl ⟨by rfl, ?hy⟩) (by assumption) ?_
      case hy => (intro W hSw; (try dsimp only at hSw); go_simp; try (with_reducible rfl))
      try simp only [Act.put, List.setIfInBounds_toArray, List.set_cons_zero, List.set_cons_succ]
      refine wpAnyH_take (i := 10) (oi := { dst := some 15, op := Go.Op.fieldAddr 39 (Go.Operand.tmp 3) 1, type := 0, pos := "scope.go:75", after := #[{ on := 2, ground := Go.Ground.guard }], guard := some (2, true) }) (v := ?_) rfl (by kernel_rfl) (by kernel_rfl) (by kernel_rfl) (fun _ _ _ h => h) (Or.inl ⟨by rfl, ?hy⟩) (by assumption) ?_
      case hy => (intro W hSw; (try dsimp only at hSw); go_simp; try (with_reducible rfl))
      try simp only [Act.put, List.setIfInBounds_toArray, List.set_cons_zero, List.set_cons_succ]
      refine wpAnyH_take (i := 11) (oi := { dst := some 16, op := Go.Op.load 3 (Go.Operand.tmp 15), type := 3, pos := "scope.go:75", after := #[{ on := 10, ground := Go.Ground.data }, { on := 2, ground := Go.Ground.guard }], guard := some (2, true) }) (v := ?_) rfl (by kernel_rfl) (by kernel_rfl) (by kernel_rfl) (fun _ _ _ h => h) (Or.inl ⟨by rfl, ?hy⟩) (by assumption) ?_
      case hy => (intro W hSw; (try dsimp only at hSw); go_simp; try (with_reducible rfl))
      try simp only [Act.put, List.setIfInBounds_toArray, List.set_cons_zero, List.set_cons_succ]
      refine wpAnyH_ready (rs := [3]) (by kernel_rfl) (by simp) ?_
      refine AllReadyH.cons (o := { dst := some 8, op := Go.Op.call { callee := Go.Callee.value (Go.Operand.func 38), args := #[], argTypes := #[] }, type := 89, pos := "scope.go:75", after := #[{ on := 2, ground := Go.Ground.chain }, { on := 2, ground := Go.Ground.guard }], guard := some (2, true) }) rfl (fun K hK => ?_) AllReadyH.nil
      go_simp
      refine (KI.out _ hb1).mono ?_
      rintro e w2 ⟨gk, rfl, c2, hb2⟩
      refine hK.out _ _ (KC.out _ hb2) (fun hHeld => ?_)
      clear hK K
      try simp only [Act.put, List.setIfInBounds_toArray, List.set_cons_zero, List.set_cons_succ]
      refine wpAnyH_take (i := 6) (oi := { dst := some 11, op := Go.Op.indexAddr 89 (Go.Operand.tmp 8) (Go.Operand.tmp 10), type := 0, pos := "scope.go:75", after := #[{ on := 3, ground := Go.Ground.data }, { on := 5, ground := Go.Ground.data }, { on := 2, ground := Go.Ground.guard }], guard := some (2, true) }) (v := ?_) rfl (by kernel_rfl) (by kernel_rfl) (by kernel_rfl) (fun _ _ _ h => h) (Or.inl ⟨by rfl, ?hy⟩) (by assumption) ?_
      case hy => (intro W hSw; (try dsimp only at hSw); go_simp; try (with_reducible rfl))
      try simp only [Act.put, List.setIfInBounds_toArray, List.set_cons_zero, List.set_cons_succ]
      refine wpAnyH_take (i := 7) (oi := { dst := some 12, op := Go.Op.fieldAddr 88 (Go.Operand.tmp 11) 0, type := 0, pos := "scope.go:75", after := #[{ on := 6, ground := Go.Ground.data }, { on := 2, ground := Go.Ground.guard }], guard := some (2, true) }) (v := ?_) rfl (by kernel_rfl) (by kernel_rfl) (by kernel_rfl) (fun _ _ _ h => h) (Or.inl ⟨by rfl, ?hy⟩) (by assumption) ?_
      case hy => (intro W hSw; (try dsimp only at hSw); go_simp; try (with_reducible rfl))
      try simp only [Act.put, List.setIfInBounds_toArray, List.set_cons_zero, List.set_cons_succ]
      refine wpAnyH_ready (rs := [8]) (by kernel_rfl) (by simp) ?_
      refine AllReadyH.cons (o := { dst := some 13, op := Go.Op.load 86 (Go.Operand.tmp 12), type := 86, pos := "scope.go:75", after := #[{ on := 7, ground := Go.Ground.data }, { on := 2, ground := Go.Ground.guard }], guard := some (2, true) }) rfl (fun K hK => ?_) AllReadyH.nil
      go_simp
      refine hK.out _ _ (KC.out _ hb2) (fun hHeld => ?_)
      clear hK K
      try simp only [Act.put, List.setIfInBounds_toArray, List.set_cons_zero, List.set_cons_succ]
      refine wpAnyH_ready (rs := [12]) (by kernel_rfl) (by simp) ?_
      refine AllReadyH.cons (o := { dst := some 17, op := Go.Op.call { callee := Go.Callee.value (Go.Operand.tmp 13), args := #[Go.Operand.tmp 14, Go.Operand.tmp 16], argTypes := #[25, 3] }, type := 4, pos := "scope.go:75", after := #[{ on := 8, ground := Go.Ground.data }, { on := 9, ground := Go.Ground.data }, { on := 11, ground := Go.Ground.data }, { on := 3, ground := Go.Ground.chain }, { on := 2, ground := Go.Ground.guard }], guard := some (2, true) }) rfl (fun K hK => ?_) AllReadyH.nil
      go_simp
      refine (HO.out _ hb2).mono ?_
      rintro e w3 ⟨rfl, hb3⟩
      refine hK.out _ _ (KC.out _ hb3) (fun hHeld => ?_)
      clear hK K
      try simp only [Act.put, List.setIfInBounds_toArray, List.set_cons_zero, List.set_cons_succ]
      refine wpAnyH_take (i := 13) (oi := { dst := some 18, op := Go.Op.pick (Go.Operand.tmp 7) (Go.Operand.tmp 17) (Go.Operand.const (Go.Value.bool false)), type := 4, pos := "scope.go:75", after := #[{ on := 2, ground := Go.Ground.data }, { on := 12, ground := Go.Ground.data }], guard := none }) (v := ?_) rfl (by kernel_rfl) (by kernel_rfl) (by kernel_rfl) (fun _ _ _ h => h) (Or.inl ⟨by rfl, ?hy⟩) (by assumption) ?_
      case hy => (intro W hSw; (try dsimp only at hSw); go_simp; try (with_reducible rfl))
      try simp only [Act.put, List.setIfInBounds_toArray, List.set_cons_zero, List.set_cons_succ]
      refine wpAnyH_take (i := 14) (oi := { dst := some 4, op := Go.Op.assign (Go.Operand.tmp 18), type := 4, pos := "scope.go:75", after := #[{ on := 13, ground := Go.Ground.data }, { on := 12, ground := Go.Ground.chain }, { on := 0, ground := Go.Ground.phase }, { on := 1, ground := Go.Ground.phase }, { on := 2, ground := Go.Ground.phase }, { on := 3, ground := Go.Ground.phase }, { on := 4, ground := Go.Ground.phase }, { on := 5, ground := Go.Ground.phase }, { on := 6, ground := Go.Ground.phase }, { on := 7, ground := Go.Ground.phase }, { on := 8, ground := Go.Ground.phase }, { on := 9, ground := Go.Ground.phase }, { on := 10, ground := Go.Ground.phase }, { on := 11, ground := Go.Ground.phase }, { on := 12, ground := Go.Ground.phase }, { on := 13, ground := Go.Ground.phase }], guard := none }) (v := ?_) rfl (by kernel_rfl) (by kernel_rfl) (by kernel_rfl) (fun _ _ _ h => h) (Or.inl ⟨by rfl, ?hy⟩) (by assumption) ?_
      case hy => (intro W hSw; (try dsimp only at hSw); go_simp; try (with_reducible rfl))
      try simp only [Act.put, List.setIfInBounds_toArray, List.set_cons_zero, List.set_cons_succ]
      refine wpAnyH_done (by kernel_rfl) ?_ _
      have B3 : Hid (Below w.heap.size w w3) := Lib.hid (BX.out.trans (hb3.mono BX.out.size))
      clear hb1 hb2 hb3 c2
      go_wp2_with fail
      go_ret
      exact ⟨by rw [EI.out]; rfl, B3.out⟩
    · have KI : Hid (∀ W, Below X.heap.size X W → Calls Tryz.prog 38 #[] W fun e w' => ∃ gk, e = .returned (.slice (some ⟨gk, 0, none⟩) 6 6) ∧ w'.cell? ⟨gk, 3, none⟩ = some (.func (.func 71) #[] #[]) ∧ Below X.heap.size X w') := Lib.hid fun W hb => (kinds_any W).mono fun e w' ⟨e1, e2⟩ => ⟨_, e1, by rw [e2, World.cell?_alloc_new]; rfl, by rw [e2]; exact hb.alloc hb.size _⟩
      have HO : Hid (∀ W, Below X.heap.size X W → Calls Tryz.prog 71 #[.agg #[.string op, .string on, .slice la ln lc, .int .i64 opr, .int .i64 odl, .slice pa pn pc, .int .i64 over], .int .i64 a] W fun e w' => e = .returned (.bool (decide (0 < odl))) ∧ Below X.heap.size X w') := Lib.hid fun W hb => (hold_3 ⟨op, on, ols, opr, odl, ops, over⟩ la ln lc pa pn pc a W ((H.out.below BX.out).below hb)).mono fun _ _ ⟨e, hb'⟩ => ⟨e, hb.trans (hb'.mono hb.size)⟩
      go_wp2_with fail
      refine wp_region_held_drew (S := fun W : World => (W.cell? ⟨w.heap.size, 0, none⟩ = some (.string op) ∧ W.cell? ⟨w.heap.size, 1, none⟩ = some (.string on) ∧ W.cell? ⟨w.heap.size, 2, none⟩ = some (.slice la ln lc) ∧ W.cell? ⟨w.heap.size, 3, none⟩ = some (.int .i64 opr) ∧ W.cell? ⟨w.heap.size, 4, none⟩ = some (.int .i64 odl) ∧ W.cell? ⟨w.heap.size, 5, none⟩ = some (.slice pa pn pc) ∧ W.cell? ⟨w.heap.size, 6, none⟩ = some (.int .i64 over) ∧ W.cell? ⟨w.heap.size + 1, 0, none⟩ = some (.int .i64 3) ∧ W.cell? ⟨w.heap.size + 1, 1, none⟩ = some (.int .i64 a))) (by kernel_rfl) (KC.out _ BD.out) (fun hHeld => ?_)
      refine wpAnyH_take (i := 0) (oi := { dst := some 5, op := Go.Op.load 39 (Go.Operand.tmp 3), type := 39, pos := "scope.go:75", after := #[], guard := none }) (v := ?_) rfl (by kernel_rfl) (by kernel_rfl) (by kernel_rfl) (fun _ _ _ h => h) (Or.inl ⟨by rfl, ?hy⟩) (by assumption) ?_
      case hy => (intro W hSw; (try dsimp only at hSw); go_simp; try (with_reducible rfl))
      try simp only [Act.put, List.setIfInBounds_toArray, List.set_cons_zero, List.set_cons_succ]
      refine wpAnyH_ready (rs := [1]) (by kernel_rfl) (by simp) ?_
      refine AllReadyH.cons (o := { dst := some 6, op := Go.Op.call { callee := Go.Callee.value (Go.Operand.func 37), args := #[Go.Operand.tmp 5], argTypes := #[39] }, type := 4, pos := "scope.go:75", after := #[{ on := 0, ground := Go.Ground.data }], guard := none }) rfl (fun K hK => ?_) AllReadyH.nil
      go_simp
      refine (VT.out _ BD.out).mono ?_
      rintro e w1 ⟨rfl, hb1⟩
      refine hK.out _ _ (KC.out _ hb1) (fun hHeld => ?_)
      clear hK K
      try simp only [Act.put, List.setIfInBounds_toArray, List.set_cons_zero, List.set_cons_succ]
      refine wpAnyH_take (i := 2) (oi := { dst := some 7, op := Go.Op.move (Go.Operand.tmp 6), type := 4, pos := "scope.go:75", after := #[{ on := 1, ground := Go.Ground.data }, { on := 1, ground := Go.Ground.chain }], guard := none }) (v := ?_) rfl (by kernel_rfl) (by kernel_rfl) (by kernel_rfl) (fun _ _ _ h => h) (Or.inl ⟨by rfl, ?hy⟩) (by assumption) ?_
      case hy => (intro W hSw; (try dsimp only at hSw); go_simp; try (with_reducible rfl))
      try simp only [Act.put, List.setIfInBounds_toArray, List.set_cons_zero, List.set_cons_succ]
      refine wpAnyH_take (i := 4) (oi := { dst := some 9, op := Go.Op.fieldAddr 39 (Go.Operand.tmp 3) 0, type := 0, pos := "scope.go:75", after := #[{ on := 2, ground := Go.Ground.guard }], guard := some (2, true) }) (v := ?_) rfl (by kernel_rfl) (by kernel_rfl) (by kernel_rfl) (fun _ _ _ h => h) (Or.inl ⟨by rfl, ?hy⟩) (by assumption) ?_
      case hy => (intro W hSw; (try dsimp only at hSw); go_simp; try (with_reducible rfl))
      try simp only [Act.put, List.setIfInBounds_toArray, List.set_cons_zero, List.set_cons_succ]
      refine wpAnyH_take (i := 5) (oi := { dst := some 10, op := Go.Op.load 3 (Go.Operand.tmp 9), type := 3, pos := "scope.go:75", after := #[{ on := 4, ground := Go.Ground.data }, { on := 2, ground := Go.Ground.guard }], guard := some (2, true) }) (v := ?_) rfl (by kernel_rfl) (by kernel_rfl) (by kernel_rfl) (fun _ _ _ h => h) (Or.inl ⟨by rfl, ?hy⟩) (by assumption) ?_
      case hy => (intro W hSw; (try dsimp only at hSw); go_simp; try (with_reducible rfl))
      try simp only [Act.put, List.setIfInBounds_toArray, List.set_cons_zero, List.set_cons_succ]
      refine wpAnyH_take (i := 9) (oi := { dst := some 14, op := Go.Op.load 25 (Go.Operand.tmp 2), type := 25, pos := "scope.go:75", after := #[{ on := 2, ground := Go.Ground.guard }], guard := some (2, true) }) (v := ?_) rfl (by kernel_rfl) (by kernel_rfl) (by kernel_rfl) (fun _ _ _ h => h) (Or.inl ⟨by rfl, ?hy⟩) (by assumption) ?_
      case hy => (intro W hSw; (try dsimp only at hSw); go_simp; try (with_reducible rfl))
      try simp only [Act.put, List.setIfInBounds_toArray, List.set_cons_zero, List.set_cons_succ]
      refine wpAnyH_take (i := 10) (oi := { dst := some 15, op := Go.Op.fieldAddr 39 (Go.Operand.tmp 3) 1, type := 0, pos := "scope.go:75", after := #[{ on := 2, ground := Go.Ground.guard }], guard := some (2, true) }) (v := ?_) rfl (by kernel_rfl) (by kernel_rfl) (by kernel_rfl) (fun _ _ _ h => h) (Or.inl ⟨by rfl, ?hy⟩) (by assumption) ?_
      case hy => (intro W hSw; (try dsimp only at hSw); go_simp; try (with_reducible rfl))
      try simp only [Act.put, List.setIfInBounds_toArray, List.set_cons_zero, List.set_cons_succ]
      refine wpAnyH_take (i := 11) (oi := { dst := some 16, op := Go.Op.load 3 (Go.Operand.tmp 15), type := 3, pos := "scope.go:75", after := #[{ on := 10, ground := Go.Ground.data }, { on := 2, ground := Go.Ground.guard }], guard := some (2, true) }) (v := ?_) rfl (by kernel_rfl) (by kernel_rfl) (by kernel_rfl) (fun _ _ _ h => h) (Or.inl ⟨by rfl, ?hy⟩) (by assumption) ?_
      case hy => (intro W hSw; (try dsimp only at hSw); go_simp; try (with_reducible rfl))
      try simp only [Act.put, List.setIfInBounds_toArray, List.set_cons_zero, List.set_cons_succ]
      refine wpAnyH_ready (rs := [3]) (by kernel_rfl) (by simp) ?_
      refine AllReadyH.cons (o := { dst := some 8, op := Go.Op.call { callee := Go.Callee.value (Go.Operand.func 38), args := #[], argTypes := #[] }, type := 89, pos := "scope.go:75", after := #[{ on := 2, ground := Go.Ground.chain }, { on := 2, ground := Go.Ground.guard }], guard := some (2, true) }) rfl (fun K hK => ?_) AllReadyH.nil
      go_simp
      refine (KI.out _ hb1).mono ?_
      rintro e w2 ⟨gk, rfl, c2, hb2⟩
      refine hK.out _ _ (KC.out _ hb2) (fun hHeld => ?_)
      clear hK K
      try simp only [Act.put, List.setIfInBounds_toArray, List.set_cons_zero, List.set_cons_succ]
      refine wpAnyH_take (i := 6) (oi := { dst := some 11, op := Go.Op.indexAddr 89 (Go.Operand.tmp 8) (Go.Operand.tmp 10), type := 0, pos := "scope.go:75", after := #[{ on := 3, ground := Go.Ground.data }, { on := 5, ground := Go.Ground.data }, { on := 2, ground := Go.Ground.guard }], guard := some (2, true) }) (v := ?_) rfl (by kernel_rfl) (by kernel_rfl) (by kernel_rfl) (fun _ _ _ h => h) (Or.inl ⟨by rfl, ?hy⟩) (by assumption) ?_
      case hy => (intro W hSw; (try dsimp only at hSw); go_simp; try (with_reducible rfl))
      try simp only [Act.put, List.setIfInBounds_toArray, List.set_cons_zero, List.set_cons_succ]
      refine wpAnyH_take (i := 7) (oi := { dst := some 12, op := Go.Op.fieldAddr 88 (Go.Operand.tmp 11) 0, type := 0, pos := "scope.go:75", after := #[{ on := 6, ground := Go.Ground.data }, { on := 2, ground := Go.Ground.guard }], guard := some (2, true) }) (v := ?_) rfl (by kernel_rfl) (by kernel_rfl) (by kernel_rfl) (fun _ _ _ h => h) (Or.inl ⟨by rfl, ?hy⟩) (by assumption) ?_
      case hy => (intro W hSw; (try dsimp only at hSw); go_simp; try (with_reducible rfl))
      try simp only [Act.put, List.setIfInBounds_toArray, List.set_cons_zero, List.set_cons_succ]
      refine wpAnyH_ready (rs := [8]) (by kernel_rfl) (by simp) ?_
      refine AllReadyH.cons (o := { dst := some 13, op := Go.Op.load 86 (Go.Operand.tmp 12), type := 86, pos := "scope.go:75", after := #[{ on := 7, ground := Go.Ground.data }, { on := 2, ground := Go.Ground.guard }], guard := some (2, true) }) rfl (fun K hK => ?_) AllReadyH.nil
      go_simp
      refine hK.out _ _ (KC.out _ hb2) (fun hHeld => ?_)
      clear hK K
      try simp only [Act.put, List.setIfInBounds_toArray, List.set_cons_zero, List.set_cons_succ]
      refine wpAnyH_ready (rs := [12]) (by kernel_rfl) (by simp) ?_
      refine AllReadyH.cons (o := { dst := some 17, op := Go.Op.call { callee := Go.Callee.value (Go.Operand.tmp 13), args := #[Go.Operand.tmp 14, Go.Operand.tmp 16], argTypes := #[25, 3] }, type := 4, pos := "scope.go:75", after := #[{ on := 8, ground := Go.Ground.data }, { on := 9, ground := Go.Ground.data }, { on := 11, ground := Go.Ground.data }, { on := 3, ground := Go.Ground.chain }, { on := 2, ground := Go.Ground.guard }], guard := some (2, true) }) rfl (fun K hK => ?_) AllReadyH.nil
      go_simp
      refine (HO.out _ hb2).mono ?_
      rintro e w3 ⟨rfl, hb3⟩
      refine hK.out _ _ (KC.out _ hb3) (fun hHeld => ?_)
      clear hK K
      try simp only [Act.put, List.setIfInBounds_toArray, List.set_cons_zero, List.set_cons_succ]
      refine wpAnyH_take (i := 13) (oi := { dst := some 18, op := Go.Op.pick (Go.Operand.tmp 7) (Go.Operand.tmp 17) (Go.Operand.const (Go.Value.bool false)), type := 4, pos := "scope.go:75", after := #[{ on := 2, ground := Go.Ground.data }, { on := 12, ground := Go.Ground.data }], guard := none }) (v := ?_) rfl (by kernel_rfl) (by kernel_rfl) (by kernel_rfl) (fun _ _ _ h => h) (Or.inl ⟨by rfl, ?hy⟩) (by assumption) ?_
      case hy => (intro W hSw; (try dsimp only at hSw); go_simp; try (with_reducible rfl))
      try simp only [Act.put, List.setIfInBounds_toArray, List.set_cons_zero, List.set_cons_succ]
      refine wpAnyH_take (i := 14) (oi := { dst := some 4, op := Go.Op.assign (Go.Operand.tmp 18), type := 4, pos := "scope.go:75", after := #[{ on := 13, ground := Go.Ground.data }, { on := 12, ground := Go.Ground.chain }, { on := 0, ground := Go.Ground.phase }, { on := 1, ground := Go.Ground.phase }, { on := 2, ground := Go.Ground.phase }, { on := 3, ground := Go.Ground.phase }, { on := 4, ground := Go.Ground.phase }, { on := 5, ground := Go.Ground.phase }, { on := 6, ground := Go.Ground.phase }, { on := 7, ground := Go.Ground.phase }, { on := 8, ground := Go.Ground.phase }, { on := 9, ground := Go.Ground.phase }, { on := 10, ground := Go.Ground.phase }, { on := 11, ground := Go.Ground.phase }, { on := 12, ground := Go.Ground.phase }, { on := 13, ground := Go.Ground.phase }], guard := none }) (v := ?_) rfl (by kernel_rfl) (by kernel_rfl) (by kernel_rfl) (fun _ _ _ h => h) (Or.inl ⟨by rfl, ?hy⟩) (by assumption) ?_
      case hy => (intro W hSw; (try dsimp only at hSw); go_simp; try (with_reducible rfl))
      try simp only [Act.put, List.setIfInBounds_toArray, List.set_cons_zero, List.set_cons_succ]
      refine wpAnyH_done (by kernel_rfl) ?_ _
      have B3 : Hid (Below w.heap.size w w3) := Lib.hid (BX.out.trans (hb3.mono BX.out.size))
      clear hb1 hb2 hb3 c2
      go_wp2_with fail
      go_ret
      exact ⟨by rw [EI.out]; rfl, B3.out⟩
    · have KI : Hid (∀ W, Below X.heap.size X W → Calls Tryz.prog 38 #[] W fun e w' => ∃ gk, e = .returned (.slice (some ⟨gk, 0, none⟩) 6 6) ∧ w'.cell? ⟨gk, 4, none⟩ = some (.func (.func 72) #[] #[]) ∧ Below X.heap.size X w') := Lib.hid fun W hb => (kinds_any W).mono fun e w' ⟨e1, e2⟩ => ⟨_, e1, by rw [e2, World.cell?_alloc_new]; rfl, by rw [e2]; exact hb.alloc hb.size _⟩
      have HO : Hid (∀ W, Below X.heap.size X W → Calls Tryz.prog 72 #[.agg #[.string op, .string on, .slice la ln lc, .int .i64 opr, .int .i64 odl, .slice pa pn pc, .int .i64 over], .int .i64 a] W fun e w' => e = .returned (.bool (decide (odl ≤ 0))) ∧ Below X.heap.size X w') := Lib.hid fun W hb => (hold_4 ⟨op, on, ols, opr, odl, ops, over⟩ la ln lc pa pn pc a W ((H.out.below BX.out).below hb)).mono fun _ _ ⟨e, hb'⟩ => ⟨e, hb.trans (hb'.mono hb.size)⟩
      go_wp2_with fail
      refine wp_region_held_drew (S := fun W : World => (W.cell? ⟨w.heap.size, 0, none⟩ = some (.string op) ∧ W.cell? ⟨w.heap.size, 1, none⟩ = some (.string on) ∧ W.cell? ⟨w.heap.size, 2, none⟩ = some (.slice la ln lc) ∧ W.cell? ⟨w.heap.size, 3, none⟩ = some (.int .i64 opr) ∧ W.cell? ⟨w.heap.size, 4, none⟩ = some (.int .i64 odl) ∧ W.cell? ⟨w.heap.size, 5, none⟩ = some (.slice pa pn pc) ∧ W.cell? ⟨w.heap.size, 6, none⟩ = some (.int .i64 over) ∧ W.cell? ⟨w.heap.size + 1, 0, none⟩ = some (.int .i64 4) ∧ W.cell? ⟨w.heap.size + 1, 1, none⟩ = some (.int .i64 a))) (by kernel_rfl) (KC.out _ BD.out) (fun hHeld => ?_)
      refine wpAnyH_take (i := 0) (oi := { dst := some 5, op := Go.Op.load 39 (Go.Operand.tmp 3), type := 39, pos := "scope.go:75", after := #[], guard := none }) (v := ?_) rfl (by kernel_rfl) (by kernel_rfl) (by kernel_rfl) (fun _ _ _ h => h) (Or.inl ⟨by rfl, ?hy⟩) (by assumption) ?_
      case hy => (intro W hSw; (try dsimp only at hSw); go_simp; try (with_reducible rfl))
      try simp only [Act.put, List.setIfInBounds_toArray, List.set_cons_zero, List.set_cons_succ]
      refine wpAnyH_ready (rs := [1]) (by kernel_rfl) (by simp) ?_
      refine AllReadyH.cons (o := { dst := some 6, op := Go.Op.call { callee := Go.Callee.value (Go.Operand.func 37), args := #[Go.Operand.tmp 5], argTypes := #[39] }, type := 4, pos := "scope.go:75", after := #[{ on := 0, ground := Go.Ground.data }], guard := none }) rfl (fun K hK => ?_) AllReadyH.nil
      go_simp
      refine (VT.out _ BD.out).mono ?_
      rintro e w1 ⟨rfl, hb1⟩
      refine hK.out _ _ (KC.out _ hb1) (fun hHeld => ?_)
      clear hK K
      try simp only [Act.put, List.setIfInBounds_toArray, List.set_cons_zero, List.set_cons_succ]
      refine wpAnyH_take (i := 2) (oi := { dst := some 7, op := Go.Op.move (Go.Operand.tmp 6), type := 4, pos := "scope.go:75", after := #[{ on := 1, ground := Go.Ground.data }, { on := 1, ground := Go.Ground.chain }], guard := none }) (v := ?_) rfl (by kernel_rfl) (by kernel_rfl) (by kernel_rfl) (fun _ _ _ h => h) (Or.inl ⟨by rfl, ?hy⟩) (by assumption) ?_
      case hy => (intro W hSw; (try dsimp only at hSw); go_simp; try (with_reducible rfl))
      try simp only [Act.put, List.setIfInBounds_toArray, List.set_cons_zero, List.set_cons_succ]
      refine wpAnyH_take (i := 4) (oi := { dst := some 9, op := Go.Op.fieldAddr 39 (Go.Operand.tmp 3) 0, type := 0, pos := "scope.go:75", after := #[{ on := 2, ground := Go.Ground.guard }], guard := some (2, true) }) (v := ?_) rfl (by kernel_rfl) (by kernel_rfl) (by kernel_rfl) (fun _ _ _ h => h) (Or.inl ⟨by rfl, ?hy⟩) (by assumption) ?_
      case hy => (intro W hSw; (try dsimp only at hSw); go_simp; try (with_reducible rfl))
      try simp only [Act.put, List.setIfInBounds_toArray, List.set_cons_zero, List.set_cons_succ]
      refine wpAnyH_take (i := 5) (oi := { dst := some 10, op := Go.Op.load 3 (Go.Operand.tmp 9), type := 3, pos := "scope.go:75", after := #[{ on := 4, ground := Go.Ground.data }, { on := 2, ground := Go.Ground.guard }], guard := some (2, true) }) (v := ?_) rfl (by kernel_rfl) (by kernel_rfl) (by kernel_rfl) (fun _ _ _ h => h) (Or.inl ⟨by rfl, ?hy⟩) (by assumption) ?_
      case hy => (intro W hSw; (try dsimp only at hSw); go_simp; try (with_reducible rfl))
      try simp only [Act.put, List.setIfInBounds_toArray, List.set_cons_zero, List.set_cons_succ]
      refine wpAnyH_take (i := 9) (oi := { dst := some 14, op := Go.Op.load 25 (Go.Operand.tmp 2), type := 25, pos := "scope.go:75", after := #[{ on := 2, ground := Go.Ground.guard }], guard := some (2, true) }) (v := ?_) rfl (by kernel_rfl) (by kernel_rfl) (by kernel_rfl) (fun _ _ _ h => h) (Or.inl ⟨by rfl, ?hy⟩) (by assumption) ?_
      case hy => (intro W hSw; (try dsimp only at hSw); go_simp; try (with_reducible rfl))
      try simp only [Act.put, List.setIfInBounds_toArray, List.set_cons_zero, List.set_cons_succ]
      refine wpAnyH_take (i := 10) (oi := { dst := some 15, op := Go.Op.fieldAddr 39 (Go.Operand.tmp 3) 1, type := 0, pos := "scope.go:75", after := #[{ on := 2, ground := Go.Ground.guard }], guard := some (2, true) }) (v := ?_) rfl (by kernel_rfl) (by kernel_rfl) (by kernel_rfl) (fun _ _ _ h => h) (Or.inl ⟨by rfl, ?hy⟩) (by assumption) ?_
      case hy => (intro W hSw; (try dsimp only at hSw); go_simp; try (with_reducible rfl))
      try simp only [Act.put, List.setIfInBounds_toArray, List.set_cons_zero, List.set_cons_succ]
      refine wpAnyH_take (i := 11) (oi := { dst := some 16, op := Go.Op.load 3 (Go.Operand.tmp 15), type := 3, pos := "scope.go:75", after := #[{ on := 10, ground := Go.Ground.data }, { on := 2, ground := Go.Ground.guard }], guard := some (2, true) }) (v := ?_) rfl (by kernel_rfl) (by kernel_rfl) (by kernel_rfl) (fun _ _ _ h => h) (Or.inl ⟨by rfl, ?hy⟩) (by assumption) ?_
      case hy => (intro W hSw; (try dsimp only at hSw); go_simp; try (with_reducible rfl))
      try simp only [Act.put, List.setIfInBounds_toArray, List.set_cons_zero, List.set_cons_succ]
      refine wpAnyH_ready (rs := [3]) (by kernel_rfl) (by simp) ?_
      refine AllReadyH.cons (o := { dst := some 8, op := Go.Op.call { callee := Go.Callee.value (Go.Operand.func 38), args := #[], argTypes := #[] }, type := 89, pos := "scope.go:75", after := #[{ on := 2, ground := Go.Ground.chain }, { on := 2, ground := Go.Ground.guard }], guard := some (2, true) }) rfl (fun K hK => ?_) AllReadyH.nil
      go_simp
      refine (KI.out _ hb1).mono ?_
      rintro e w2 ⟨gk, rfl, c2, hb2⟩
      refine hK.out _ _ (KC.out _ hb2) (fun hHeld => ?_)
      clear hK K
      try simp only [Act.put, List.setIfInBounds_toArray, List.set_cons_zero, List.set_cons_succ]
      refine wpAnyH_take (i := 6) (oi := { dst := some 11, op := Go.Op.indexAddr 89 (Go.Operand.tmp 8) (Go.Operand.tmp 10), type := 0, pos := "scope.go:75", after := #[{ on := 3, ground := Go.Ground.data }, { on := 5, ground := Go.Ground.data }, { on := 2, ground := Go.Ground.guard }], guard := some (2, true) }) (v := ?_) rfl (by kernel_rfl) (by kernel_rfl) (by kernel_rfl) (fun _ _ _ h => h) (Or.inl ⟨by rfl, ?hy⟩) (by assumption) ?_
      case hy => (intro W hSw; (try dsimp only at hSw); go_simp; try (with_reducible rfl))
      try simp only [Act.put, List.setIfInBounds_toArray, List.set_cons_zero, List.set_cons_succ]
      refine wpAnyH_take (i := 7) (oi := { dst := some 12, op := Go.Op.fieldAddr 88 (Go.Operand.tmp 11) 0, type := 0, pos := "scope.go:75", after := #[{ on := 6, ground := Go.Ground.data }, { on := 2, ground := Go.Ground.guard }], guard := some (2, true) }) (v := ?_) rfl (by kernel_rfl) (by kernel_rfl) (by kernel_rfl) (fun _ _ _ h => h) (Or.inl ⟨by rfl, ?hy⟩) (by assumption) ?_
      case hy => (intro W hSw; (try dsimp only at hSw); go_simp; try (with_reducible rfl))
      try simp only [Act.put, List.setIfInBounds_toArray, List.set_cons_zero, List.set_cons_succ]
      refine wpAnyH_ready (rs := [8]) (by kernel_rfl) (by simp) ?_
      refine AllReadyH.cons (o := { dst := some 13, op := Go.Op.load 86 (Go.Operand.tmp 12), type := 86, pos := "scope.go:75", after := #[{ on := 7, ground := Go.Ground.data }, { on := 2, ground := Go.Ground.guard }], guard := some (2, true) }) rfl (fun K hK => ?_) AllReadyH.nil
      go_simp
      refine hK.out _ _ (KC.out _ hb2) (fun hHeld => ?_)
      clear hK K
      try simp only [Act.put, List.setIfInBounds_toArray, List.set_cons_zero, List.set_cons_succ]
      refine wpAnyH_ready (rs := [12]) (by kernel_rfl) (by simp) ?_
      refine AllReadyH.cons (o := { dst := some 17, op := Go.Op.call { callee := Go.Callee.value (Go.Operand.tmp 13), args := #[Go.Operand.tmp 14, Go.Operand.tmp 16], argTypes := #[25, 3] }, type := 4, pos := "scope.go:75", after := #[{ on := 8, ground := Go.Ground.data }, { on := 9, ground := Go.Ground.data }, { on := 11, ground := Go.Ground.data }, { on := 3, ground := Go.Ground.chain }, { on := 2, ground := Go.Ground.guard }], guard := some (2, true) }) rfl (fun K hK => ?_) AllReadyH.nil
      go_simp
      refine (HO.out _ hb2).mono ?_
      rintro e w3 ⟨rfl, hb3⟩
      refine hK.out _ _ (KC.out _ hb3) (fun hHeld => ?_)
      clear hK K
      try simp only [Act.put, List.setIfInBounds_toArray, List.set_cons_zero, List.set_cons_succ]
      refine wpAnyH_take (i := 13) (oi := { dst := some 18, op := Go.Op.pick (Go.Operand.tmp 7) (Go.Operand.tmp 17) (Go.Operand.const (Go.Value.bool false)), type := 4, pos := "scope.go:75", after := #[{ on := 2, ground := Go.Ground.data }, { on := 12, ground := Go.Ground.data }], guard := none }) (v := ?_) rfl (by kernel_rfl) (by kernel_rfl) (by kernel_rfl) (fun _ _ _ h => h) (Or.inl ⟨by rfl, ?hy⟩) (by assumption) ?_
      case hy => (intro W hSw; (try dsimp only at hSw); go_simp; try (with_reducible rfl))
      try simp only [Act.put, List.setIfInBounds_toArray, List.set_cons_zero, List.set_cons_succ]
      refine wpAnyH_take (i := 14) (oi := { dst := some 4, op := Go.Op.assign (Go.Operand.tmp 18), type := 4, pos := "scope.go:75", after := #[{ on := 13, ground := Go.Ground.data }, { on := 12, ground := Go.Ground.chain }, { on := 0, ground := Go.Ground.phase }, { on := 1, ground := Go.Ground.phase }, { on := 2, ground := Go.Ground.phase }, { on := 3, ground := Go.Ground.phase }, { on := 4, ground := Go.Ground.phase }, { on := 5, ground := Go.Ground.phase }, { on := 6, ground := Go.Ground.phase }, { on := 7, ground := Go.Ground.phase }, { on := 8, ground := Go.Ground.phase }, { on := 9, ground := Go.Ground.phase }, { on := 10, ground := Go.Ground.phase }, { on := 11, ground := Go.Ground.phase }, { on := 12, ground := Go.Ground.phase }, { on := 13, ground := Go.Ground.phase }], guard := none }) (v := ?_) rfl (by kernel_rfl) (by kernel_rfl) (by kernel_rfl) (fun _ _ _ h => h) (Or.inl ⟨by rfl, ?hy⟩) (by assumption) ?_
      case hy => (intro W hSw; (try dsimp only at hSw); go_simp; try (with_reducible rfl))
      try simp only [Act.put, List.setIfInBounds_toArray, List.set_cons_zero, List.set_cons_succ]
      refine wpAnyH_done (by kernel_rfl) ?_ _
      have B3 : Hid (Below w.heap.size w w3) := Lib.hid (BX.out.trans (hb3.mono BX.out.size))
      clear hb1 hb2 hb3 c2
      go_wp2_with fail
      go_ret
      exact ⟨by rw [EI.out]; rfl, B3.out⟩
    · have KI : Hid (∀ W, Below X.heap.size X W → Calls Tryz.prog 38 #[] W fun e w' => ∃ gk, e = .returned (.slice (some ⟨gk, 0, none⟩) 6 6) ∧ w'.cell? ⟨gk, 5, none⟩ = some (.func (.func 73) #[] #[]) ∧ Below X.heap.size X w') := Lib.hid fun W hb => (kinds_any W).mono fun e w' ⟨e1, e2⟩ => ⟨_, e1, by rw [e2, World.cell?_alloc_new]; rfl, by rw [e2]; exact hb.alloc hb.size _⟩
      have HO : Hid (∀ W, Below X.heap.size X W → Calls Tryz.prog 73 #[.agg #[.string op, .string on, .slice la ln lc, .int .i64 opr, .int .i64 odl, .slice pa pn pc, .int .i64 over], .int .i64 a] W fun e w' => e = .returned (.bool (opr == a)) ∧ Below X.heap.size X w') := Lib.hid fun W hb => (hold_5 ⟨op, on, ols, opr, odl, ops, over⟩ la ln lc pa pn pc a W ((H.out.below BX.out).below hb)).mono fun _ _ ⟨e, hb'⟩ => ⟨e, hb.trans (hb'.mono hb.size)⟩
      go_wp2_with fail
      refine wp_region_held_drew (S := fun W : World => (W.cell? ⟨w.heap.size, 0, none⟩ = some (.string op) ∧ W.cell? ⟨w.heap.size, 1, none⟩ = some (.string on) ∧ W.cell? ⟨w.heap.size, 2, none⟩ = some (.slice la ln lc) ∧ W.cell? ⟨w.heap.size, 3, none⟩ = some (.int .i64 opr) ∧ W.cell? ⟨w.heap.size, 4, none⟩ = some (.int .i64 odl) ∧ W.cell? ⟨w.heap.size, 5, none⟩ = some (.slice pa pn pc) ∧ W.cell? ⟨w.heap.size, 6, none⟩ = some (.int .i64 over) ∧ W.cell? ⟨w.heap.size + 1, 0, none⟩ = some (.int .i64 5) ∧ W.cell? ⟨w.heap.size + 1, 1, none⟩ = some (.int .i64 a))) (by kernel_rfl) (KC.out _ BD.out) (fun hHeld => ?_)
      refine wpAnyH_take (i := 0) (oi := { dst := some 5, op := Go.Op.load 39 (Go.Operand.tmp 3), type := 39, pos := "scope.go:75", after := #[], guard := none }) (v := ?_) rfl (by kernel_rfl) (by kernel_rfl) (by kernel_rfl) (fun _ _ _ h => h) (Or.inl ⟨by rfl, ?hy⟩) (by assumption) ?_
      case hy => (intro W hSw; (try dsimp only at hSw); go_simp; try (with_reducible rfl))
      try simp only [Act.put, List.setIfInBounds_toArray, List.set_cons_zero, List.set_cons_succ]
      refine wpAnyH_ready (rs := [1]) (by kernel_rfl) (by simp) ?_
      refine AllReadyH.cons (o := { dst := some 6, op := Go.Op.call { callee := Go.Callee.value (Go.Operand.func 37), args := #[Go.Operand.tmp 5], argTypes := #[39] }, type := 4, pos := "scope.go:75", after := #[{ on := 0, ground := Go.Ground.data }], guard := none }) rfl (fun K hK => ?_) AllReadyH.nil
      go_simp
      refine (VT.out _ BD.out).mono ?_
      rintro e w1 ⟨rfl, hb1⟩
      refine hK.out _ _ (KC.out _ hb1) (fun hHeld => ?_)
      clear hK K
      try simp only [Act.put, List.setIfInBounds_toArray, List.set_cons_zero, List.set_cons_succ]
      refine wpAnyH_take (i := 2) (oi := { dst := some 7, op := Go.Op.move (Go.Operand.tmp 6), type := 4, pos := "scope.go:75", after := #[{ on := 1, ground := Go.Ground.data }, { on := 1, ground := Go.Ground.chain }], guard := none }) (v := ?_) rfl (by kernel_rfl) (by kernel_rfl) (by kernel_rfl) (fun _ _ _ h => h) (Or.inl ⟨by rfl, ?hy⟩) (by assumption) ?_
      case hy => (intro W hSw; (try dsimp only at hSw); go_simp; try (with_reducible rfl))
      try simp only [Act.put, List.setIfInBounds_toArray, List.set_cons_zero, List.set_cons_succ]
      refine wpAnyH_take (i := 4) (oi := { dst := some 9, op := Go.Op.fieldAddr 39 (Go.Operand.tmp 3) 0, type := 0, pos := "scope.go:75", after := #[{ on := 2, ground := Go.Ground.guard }], guard := some (2, true) }) (v := ?_) rfl (by kernel_rfl) (by kernel_rfl) (by kernel_rfl) (fun _ _ _ h => h) (Or.inl ⟨by rfl, ?hy⟩) (by assumption) ?_
      case hy => (intro W hSw; (try dsimp only at hSw); go_simp; try (with_reducible rfl))
      try simp only [Act.put, List.setIfInBounds_toArray, List.set_cons_zero, List.set_cons_succ]
      refine wpAnyH_take (i := 5) (oi := { dst := some 10, op := Go.Op.load 3 (Go.Operand.tmp 9), type := 3, pos := "scope.go:75", after := #[{ on := 4, ground := Go.Ground.data }, { on := 2, ground := Go.Ground.guard }], guard := some (2, true) }) (v := ?_) rfl (by kernel_rfl) (by kernel_rfl) (by kernel_rfl) (fun _ _ _ h => h) (Or.inl ⟨by rfl, ?hy⟩) (by assumption) ?_
      case hy => (intro W hSw; (try dsimp only at hSw); go_simp; try (with_reducible rfl))
      try simp only [Act.put, List.setIfInBounds_toArray, List.set_cons_zero, List.set_cons_succ]
      refine wpAnyH_take (i := 9) (oi := { dst := some 14, op := Go.Op.load 25 (Go.Operand.tmp 2), type := 25, pos := "scope.go:75", after := #[{ on := 2, ground := Go.Ground.guard }], guard := some (2, true) }) (v := ?_) rfl (by kernel_rfl) (by kernel_rfl) (by kernel_rfl) (fun _ _ _ h => h) (Or.inl ⟨by rfl, ?hy⟩) (by assumption) ?_
      case hy => (intro W hSw; (try dsimp only at hSw); go_simp; try (with_reducible rfl))
      try simp only [Act.put, List.setIfInBounds_toArray, List.set_cons_zero, List.set_cons_succ]
      refine wpAnyH_take (i := 10) (oi := { dst := some 15, op := Go.Op.fieldAddr 39 (Go.Operand.tmp 3) 1, type := 0, pos := "scope.go:75", after := #[{ on := 2, ground := Go.Ground.guard }], guard := some (2, true) }) (v := ?_) rfl (by kernel_rfl) (by kernel_rfl) (by kernel_rfl) (fun _ _ _ h => h) (Or.inl ⟨by rfl, ?hy⟩) (by assumption) ?_
      case hy => (intro W hSw; (try dsimp only at hSw); go_simp; try (with_reducible rfl))
      try simp only [Act.put, List.setIfInBounds_toArray, List.set_cons_zero, List.set_cons_succ]
      refine wpAnyH_take (i := 11) (oi := { dst := some 16, op := Go.Op.load 3 (Go.Operand.tmp 15), type := 3, pos := "scope.go:75", after := #[{ on := 10, ground := Go.Ground.data }, { on := 2, ground := Go.Ground.guard }], guard := some (2, true) }) (v := ?_) rfl (by kernel_rfl) (by kernel_rfl) (by kernel_rfl) (fun _ _ _ h => h) (Or.inl ⟨by rfl, ?hy⟩) (by assumption) ?_
      case hy => (intro W hSw; (try dsimp only at hSw); go_simp; try (with_reducible rfl))
      try simp only [Act.put, List.setIfInBounds_toArray, List.set_cons_zero, List.set_cons_succ]
      refine wpAnyH_ready (rs := [3]) (by kernel_rfl) (by simp) ?_
      refine AllReadyH.cons (o := { dst := some 8, op := Go.Op.call { callee := Go.Callee.value (Go.Operand.func 38), args := #[], argTypes := #[] }, type := 89, pos := "scope.go:75", after := #[{ on := 2, ground := Go.Ground.chain }, { on := 2, ground := Go.Ground.guard }], guard := some (2, true) }) rfl (fun K hK => ?_) AllReadyH.nil
      go_simp
      refine (KI.out _ hb1).mono ?_
      rintro e w2 ⟨gk, rfl, c2, hb2⟩
      refine hK.out _ _ (KC.out _ hb2) (fun hHeld => ?_)
      clear hK K
      try simp only [Act.put, List.setIfInBounds_toArray, List.set_cons_zero, List.set_cons_succ]
      refine wpAnyH_take (i := 6) (oi := { dst := some 11, op := Go.Op.indexAddr 89 (Go.Operand.tmp 8) (Go.Operand.tmp 10), type := 0, pos := "scope.go:75", after := #[{ on := 3, ground := Go.Ground.data }, { on := 5, ground := Go.Ground.data }, { on := 2, ground := Go.Ground.guard }], guard := some (2, true) }) (v := ?_) rfl (by kernel_rfl) (by kernel_rfl) (by kernel_rfl) (fun _ _ _ h => h) (Or.inl ⟨by rfl, ?hy⟩) (by assumption) ?_
      case hy => (intro W hSw; (try dsimp only at hSw); go_simp; try (with_reducible rfl))
      try simp only [Act.put, List.setIfInBounds_toArray, List.set_cons_zero, List.set_cons_succ]
      refine wpAnyH_take (i := 7) (oi := { dst := some 12, op := Go.Op.fieldAddr 88 (Go.Operand.tmp 11) 0, type := 0, pos := "scope.go:75", after := #[{ on := 6, ground := Go.Ground.data }, { on := 2, ground := Go.Ground.guard }], guard := some (2, true) }) (v := ?_) rfl (by kernel_rfl) (by kernel_rfl) (by kernel_rfl) (fun _ _ _ h => h) (Or.inl ⟨by rfl, ?hy⟩) (by assumption) ?_
      case hy => (intro W hSw; (try dsimp only at hSw); go_simp; try (with_reducible rfl))
      try simp only [Act.put, List.setIfInBounds_toArray, List.set_cons_zero, List.set_cons_succ]
      refine wpAnyH_ready (rs := [8]) (by kernel_rfl) (by simp) ?_
      refine AllReadyH.cons (o := { dst := some 13, op := Go.Op.load 86 (Go.Operand.tmp 12), type := 86, pos := "scope.go:75", after := #[{ on := 7, ground := Go.Ground.data }, { on := 2, ground := Go.Ground.guard }], guard := some (2, true) }) rfl (fun K hK => ?_) AllReadyH.nil
      go_simp
      refine hK.out _ _ (KC.out _ hb2) (fun hHeld => ?_)
      clear hK K
      try simp only [Act.put, List.setIfInBounds_toArray, List.set_cons_zero, List.set_cons_succ]
      refine wpAnyH_ready (rs := [12]) (by kernel_rfl) (by simp) ?_
      refine AllReadyH.cons (o := { dst := some 17, op := Go.Op.call { callee := Go.Callee.value (Go.Operand.tmp 13), args := #[Go.Operand.tmp 14, Go.Operand.tmp 16], argTypes := #[25, 3] }, type := 4, pos := "scope.go:75", after := #[{ on := 8, ground := Go.Ground.data }, { on := 9, ground := Go.Ground.data }, { on := 11, ground := Go.Ground.data }, { on := 3, ground := Go.Ground.chain }, { on := 2, ground := Go.Ground.guard }], guard := some (2, true) }) rfl (fun K hK => ?_) AllReadyH.nil
      go_simp
      refine (HO.out _ hb2).mono ?_
      rintro e w3 ⟨rfl, hb3⟩
      refine hK.out _ _ (KC.out _ hb3) (fun hHeld => ?_)
      clear hK K
      try simp only [Act.put, List.setIfInBounds_toArray, List.set_cons_zero, List.set_cons_succ]
      refine wpAnyH_take (i := 13) (oi := { dst := some 18, op := Go.Op.pick (Go.Operand.tmp 7) (Go.Operand.tmp 17) (Go.Operand.const (Go.Value.bool false)), type := 4, pos := "scope.go:75", after := #[{ on := 2, ground := Go.Ground.data }, { on := 12, ground := Go.Ground.data }], guard := none }) (v := ?_) rfl (by kernel_rfl) (by kernel_rfl) (by kernel_rfl) (fun _ _ _ h => h) (Or.inl ⟨by rfl, ?hy⟩) (by assumption) ?_
      case hy => (intro W hSw; (try dsimp only at hSw); go_simp; try (with_reducible rfl))
      try simp only [Act.put, List.setIfInBounds_toArray, List.set_cons_zero, List.set_cons_succ]
      refine wpAnyH_take (i := 14) (oi := { dst := some 4, op := Go.Op.assign (Go.Operand.tmp 18), type := 4, pos := "scope.go:75", after := #[{ on := 13, ground := Go.Ground.data }, { on := 12, ground := Go.Ground.chain }, { on := 0, ground := Go.Ground.phase }, { on := 1, ground := Go.Ground.phase }, { on := 2, ground := Go.Ground.phase }, { on := 3, ground := Go.Ground.phase }, { on := 4, ground := Go.Ground.phase }, { on := 5, ground := Go.Ground.phase }, { on := 6, ground := Go.Ground.phase }, { on := 7, ground := Go.Ground.phase }, { on := 8, ground := Go.Ground.phase }, { on := 9, ground := Go.Ground.phase }, { on := 10, ground := Go.Ground.phase }, { on := 11, ground := Go.Ground.phase }, { on := 12, ground := Go.Ground.phase }, { on := 13, ground := Go.Ground.phase }], guard := none }) (v := ?_) rfl (by kernel_rfl) (by kernel_rfl) (by kernel_rfl) (fun _ _ _ h => h) (Or.inl ⟨by rfl, ?hy⟩) (by assumption) ?_
      case hy => (intro W hSw; (try dsimp only at hSw); go_simp; try (with_reducible rfl))
      try simp only [Act.put, List.setIfInBounds_toArray, List.set_cons_zero, List.set_cons_succ]
      refine wpAnyH_done (by kernel_rfl) ?_ _
      have B3 : Hid (Below w.heap.size w w3) := Lib.hid (BX.out.trans (hb3.mono BX.out.size))
      clear hb1 hb2 hb3 c2
      go_wp2_with fail
      go_ret
      exact ⟨by rw [EI.out]; rfl, B3.out⟩
end Go.Proofs.YtodfmnbfbndkhaaGreatDoor
