/-
  ContainsFunc at parts and at amounts; namesAny; namesBelowZero.
-/
import Derived.Test.YtodfmnbfbndkhaaGreatDoorScA
import Derived.Test.YtodfmnbfbndkhaaGreatDoorShelf
namespace Go.Proofs.YtodfmnbfbndkhaaGreatDoor
open Go.RowKit
open Go.Sort (grow)

theorem sizePt (w : World) : (Go.sizeOf 35).run Tryz.prog w = .ok 3 w := by go_simp
theorem aggPt (w : World) : (isAgg 35).run Tryz.prog w = .ok true w := by go_simp
theorem indexPt_none (a : Option Addr) (cap g : Nat) (w : World) : Calls Tryz.prog 74 #[.slice a 0 cap, .func (.func g) #[] #[]] w fun e w' => e = .returned (.int .i64 (-1)) ∧ w' = w := by
  go_enter Tryz.func74, Tryz.ntmps74
  go_wp2_with fail
  refine wp_loop_rounds 1 ?_
  rw [rounds_succ]
  go_wp2_with fail
  go_ret
  exact ⟨rfl, rfl⟩
theorem containsPt_none (a : Option Addr) (cap g : Nat) (w : World) : Calls Tryz.prog 39 #[.slice a 0 cap, .func (.func g) #[] #[]] w fun e w' => e = .returned (.bool false) ∧ Below w.heap.size w w' := by
  have I := Lib.hid (indexPt_none a cap g w)
  go_enter Tryz.func39, Tryz.ntmps39
  go_wp2_with fail
  refine I.out.mono ?_
  rintro e w1 ⟨rfl, rfl⟩
  go_wp2_with fail
  go_ret
  exact ⟨rfl, Below.refl _ _⟩
theorem containsPt_any (g : Nat) (eg : ∀ args w, (callFunc g args).run Tryz.prog w = .ok (.enter g args) w) {β : Type} (f : β → Pr) (p : β → Bool) (G : β → Prop) (xs : List β) (v : Value) (w : World) (hv : Row kPt w v (xs.map f)) (hG : ∀ x ∈ xs, G x)
    (hp : ∀ W x, Below w.heap.size w W → G x → Calls Tryz.prog g #[.agg (kPt.c (f x)).toArray] W fun e w' => e = .returned (.bool (p x)) ∧ Below W.heap.size W w') :
    Calls Tryz.prog 39 #[v, .func (.func g) #[] #[]] w fun e w' => e = .returned (.bool (xs.any p)) ∧ Below w.heap.size w w' := by
  obtain ⟨a, cap, rfl, hlc, hcm, h0, hc⟩ := hv
  simp only [List.length_map] at hlc hc ⊢
  by_cases hl : xs.length = 0
  · have hx : xs = [] := List.eq_nil_of_length_eq_zero hl
    subst hx
    exact containsPt_none a cap g w
  have hx0 : 0 < xs.length := by omega
  obtain ⟨b, off, rfl, hc0⟩ := hc 0 hx0
  let α := { x : β // G x }
  have inh : Inhabited α := ⟨⟨_, hG _ (List.getElem_mem hx0)⟩⟩
  let ys : List α := xs.attach.map fun x => ⟨x.1, hG x.1 x.2⟩
  have hys : ys.map (·.1) = xs := by simp [ys]
  have hlen : ys.length = xs.length := by simp [ys]
  have hpp : PredBelow Tryz.prog g #[] (fun x : α => .agg (kPt.c (f x.1)).toArray) (fun x => p x.1) w := fun W x hb => (hp W x.1 hb x.2).mono fun _ _ ⟨he, hb'⟩ => ⟨he, hb.trans (hb'.mono hb.size)⟩
  have := Tryz.slices_ContainsFunc_f39 (α := α) 3 aggPt sizePt (fun x => kPt.c (f x.1)) (fun x => rfl) (fun x => p x.1) g #[] eg b off xs.length cap ys w hpp (by omega) (by unfold maxLen at hcm; omega) ?_ ?_
  · refine this.mono ?_
    rintro e w' ⟨rfl, hb⟩
    refine ⟨?_, hb⟩
    rw [List.take_of_length_le (by omega)]
    have e : ys.any (fun x => p x.1) = xs.any p := by
      have h := congrArg (fun l => l.any p) hys
      simp only [List.any_map] at h
      exact h
    rw [e]
  · exact block_lt_of_cell (hc0 0 _ rfl)
  · intro j hj i u hu
    have hj' : j < xs.length := by omega
    obtain ⟨b', off', e', hcj⟩ := hc j hj'
    simp only [Option.some.injEq, Addr.mk.injEq] at e'
    obtain ⟨rfl, rfl, _⟩ := e'
    refine hcj i u ?_
    have e : (xs.map f).getD j kPt.z = f (ys[j]!).1 := by
      rw [getElem!_pos ys j hj, List.getD_eq_getElem?_getD, List.getElem?_eq_getElem (by simpa using hj')]
      simp [ys]
    rw [e]
    exact hu
theorem sizeAm (w : World) : (Go.sizeOf 37).run Tryz.prog w = .ok 2 w := by go_simp
theorem aggAm (w : World) : (isAgg 37).run Tryz.prog w = .ok true w := by go_simp
theorem indexAm_none (a : Option Addr) (cap g : Nat) (w : World) : Calls Tryz.prog 113 #[.slice a 0 cap, .func (.func g) #[] #[]] w fun e w' => e = .returned (.int .i64 (-1)) ∧ w' = w := by
  go_enter Tryz.func113, Tryz.ntmps113
  go_wp2_with fail
  refine wp_loop_rounds 1 ?_
  rw [rounds_succ]
  go_wp2_with fail
  go_ret
  exact ⟨rfl, rfl⟩
theorem containsAm_none (a : Option Addr) (cap g : Nat) (w : World) : Calls Tryz.prog 76 #[.slice a 0 cap, .func (.func g) #[] #[]] w fun e w' => e = .returned (.bool false) ∧ Below w.heap.size w w' := by
  have I := Lib.hid (indexAm_none a cap g w)
  go_enter Tryz.func76, Tryz.ntmps76
  go_wp2_with fail
  refine I.out.mono ?_
  rintro e w1 ⟨rfl, rfl⟩
  go_wp2_with fail
  go_ret
  exact ⟨rfl, Below.refl _ _⟩
theorem containsAm_any (g : Nat) (eg : ∀ args w, (callFunc g args).run Tryz.prog w = .ok (.enter g args) w) {β : Type} (f : β → Am) (p : β → Bool) (G : β → Prop) (xs : List β) (v : Value) (w : World) (hv : Row kAm w v (xs.map f)) (hG : ∀ x ∈ xs, G x)
    (hp : ∀ W x, Below w.heap.size w W → G x → Calls Tryz.prog g #[.agg (kAm.c (f x)).toArray] W fun e w' => e = .returned (.bool (p x)) ∧ Below W.heap.size W w') :
    Calls Tryz.prog 76 #[v, .func (.func g) #[] #[]] w fun e w' => e = .returned (.bool (xs.any p)) ∧ Below w.heap.size w w' := by
  obtain ⟨a, cap, rfl, hlc, hcm, h0, hc⟩ := hv
  simp only [List.length_map] at hlc hc ⊢
  by_cases hl : xs.length = 0
  · have hx : xs = [] := List.eq_nil_of_length_eq_zero hl
    subst hx
    exact containsAm_none a cap g w
  have hx0 : 0 < xs.length := by omega
  obtain ⟨b, off, rfl, hc0⟩ := hc 0 hx0
  let α := { x : β // G x }
  have inh : Inhabited α := ⟨⟨_, hG _ (List.getElem_mem hx0)⟩⟩
  let ys : List α := xs.attach.map fun x => ⟨x.1, hG x.1 x.2⟩
  have hys : ys.map (·.1) = xs := by simp [ys]
  have hlen : ys.length = xs.length := by simp [ys]
  have hpp : PredBelow Tryz.prog g #[] (fun x : α => .agg (kAm.c (f x.1)).toArray) (fun x => p x.1) w := fun W x hb => (hp W x.1 hb x.2).mono fun _ _ ⟨he, hb'⟩ => ⟨he, hb.trans (hb'.mono hb.size)⟩
  have := Tryz.slices_ContainsFunc_f76 (α := α) 2 aggAm sizeAm (fun x => kAm.c (f x.1)) (fun x => rfl) (fun x => p x.1) g #[] eg b off xs.length cap ys w hpp (by omega) (by unfold maxLen at hcm; omega) ?_ ?_
  · refine this.mono ?_
    rintro e w' ⟨rfl, hb⟩
    refine ⟨?_, hb⟩
    rw [List.take_of_length_le (by omega)]
    have e : ys.any (fun x => p x.1) = xs.any p := by
      have h := congrArg (fun l => l.any p) hys
      simp only [List.any_map] at h
      exact h
    rw [e]
  · exact block_lt_of_cell (hc0 0 _ rfl)
  · intro j hj i u hu
    have hj' : j < xs.length := by omega
    obtain ⟨b', off', e', hcj⟩ := hc j hj'
    simp only [Option.some.injEq, Addr.mk.injEq] at e'
    obtain ⟨rfl, rfl, _⟩ := e'
    refine hcj i u ?_
    have e : (xs.map f).getD j kAm.z = f (ys[j]!).1 := by
      rw [getElem!_pos ys j hj, List.getD_eq_getElem?_getD, List.getElem?_eq_getElem (by simpa using hj')]
      simp [ys]
    rw [e]
    exact hu
/-- An amount below 0. -/
def negB (x : Am) : Bool := decide (x.v < 0)
theorem below1_any (x : Am) (w : World) : Calls Tryz.prog 75 #[.agg (kAm.c x).toArray] w fun e w' => e = .returned (.bool (negB x)) ∧ Below w.heap.size w w' := by
  obtain ⟨xn, xv⟩ := x
  show Calls Tryz.prog 75 #[.agg #[.string xn, .int .i64 xv]] w _
  have B0 : Hid (∀ o, Below w.heap.size w (w.alloc o)) := Lib.hid fun o => (Below.refl _ w).alloc (Nat.le_refl _) _
  go_enter Tryz.func75, Tryz.ntmps75
  go_wp2_with fail
  go_ret
  exact ⟨rfl, B0.out _⟩
/-- A part that names a resource; one that has an amount below 0. -/
def namB (p : Pt) : Bool := decide (0 < p.r.length) || decide (0 < p.l.length)
def pnegB (p : Pt) : Bool := p.r.any negB || p.l.any negB
def namP (x : Pr) : Bool := decide (0 < x.r.n) || decide (0 < x.l.n)
theorem names1_any (x : Pr) (w : World) : Calls Tryz.prog 112 #[.agg (kPt.c x).toArray] w fun e w' => e = .returned (.bool (namP x)) ∧ Below w.heap.size w w' := by
  obtain ⟨xn, ⟨ra, rn, rc⟩, ⟨la, ln, lc⟩⟩ := x
  show Calls Tryz.prog 112 #[.agg #[.string xn, .slice ra rn rc, .slice la ln lc]] w _
  have B0 : Hid (∀ o, Below w.heap.size w (w.alloc o)) := Lib.hid fun o => (Below.refl _ w).alloc (Nat.le_refl _) _
  go_enter Tryz.func112, Tryz.ntmps112
  by_cases h1 : 0 < rn
  · have g1 : decide (0 < rn) = true := decide_eq_true h1
    have E : Hid (namP ⟨xn, ⟨ra, rn, rc⟩, ⟨la, ln, lc⟩⟩ = true) := Lib.hid (by unfold namP; rw [decide_eq_true h1]; rfl)
    clear h1
    go_wp2_with fail
    go_ret
    exact ⟨by rw [E.out]; rfl, B0.out _⟩
  · have g1 : decide (0 < rn) = false := decide_eq_false h1
    have E : Hid (namP ⟨xn, ⟨ra, rn, rc⟩, ⟨la, ln, lc⟩⟩ = decide (0 < ln)) := Lib.hid (by unfold namP; rw [decide_eq_false h1]; rfl)
    clear h1
    by_cases h2 : 0 < ln
    · have g2 : decide (0 < ln) = true := decide_eq_true h2
      have E2 : Hid (decide (0 < ln) = true) := Lib.hid (decide_eq_true h2)
      clear h2
      go_wp2_with fail
      go_ret
      exact ⟨by rw [E.out, E2.out]; rfl, B0.out _⟩
    · have g2 : decide (0 < ln) = false := decide_eq_false h2
      have E2 : Hid (decide (0 < ln) = false) := Lib.hid (decide_eq_false h2)
      clear h2
      go_wp2_with fail
      go_ret
      exact ⟨by rw [E.out, E2.out]; rfl, B0.out _⟩
/-- A part with its lists, at a world. -/
def PtAt (w : World) (x : Pr) (p : Pt) : Prop := x.n = p.n ∧ Row kAm w x.r.v p.r ∧ Row kAm w x.l.v p.l
theorem row_sl {w : World} {s : Sl} {l : List Am} (h : Row kAm w s.v l) : s.n = l.length := by
  obtain ⟨a, cap, e, _⟩ := h.len
  obtain ⟨sa, sn, sc⟩ := s
  simp only [Sl.v, Value.slice.injEq] at e
  exact e.2.1
theorem PtAt.nam {w : World} {x : Pr} {p : Pt} (h : PtAt w x p) : namP x = namB p := by
  unfold namP namB; rw [row_sl h.2.1, row_sl h.2.2]
theorem PtAt.below {w w' : World} {x : Pr} {p : Pt} (h : PtAt w x p) (hb : Below w.heap.size w w') : PtAt w' x p := ⟨h.1, h.2.1.below hb, h.2.2.below hb⟩
set_option maxHeartbeats 1000000 in
theorem neg_any (x : Pr) (p : Pt) (w : World) (h : PtAt w x p) : Calls Tryz.prog 40 #[.agg (kPt.c x).toArray] w fun e w' => e = .returned (.bool (pnegB p)) ∧ Below w.heap.size w w' := by
  obtain ⟨xn, ⟨ra, rn, rc⟩, ⟨la, ln, lc⟩⟩ := x
  show Calls Tryz.prog 40 #[.agg #[.string xn, .slice ra rn rc, .slice la ln lc]] w _
  have B0 : Hid (∀ o, Below w.heap.size w (w.alloc o)) := Lib.hid fun o => (Below.refl _ w).alloc (Nat.le_refl _) _
  have CR : Hid (∀ W, Below w.heap.size w W → Calls Tryz.prog 76 #[.slice ra rn rc, .func (.func 75) #[] #[]] W fun e w' => e = .returned (.bool (p.r.any negB)) ∧ Below W.heap.size W w') := Lib.hid fun W hb =>
    containsAm_any _ (enters_of Tryz.func75 (by kernel_rfl) rfl) id negB (fun _ => True) p.r _ W (by rw [List.map_id]; exact h.2.1.below hb) (fun _ _ => trivial) (fun W x _ _ => below1_any x W)
  have CL : Hid (∀ W, Below w.heap.size w W → Calls Tryz.prog 76 #[.slice la ln lc, .func (.func 75) #[] #[]] W fun e w' => e = .returned (.bool (p.l.any negB)) ∧ Below W.heap.size W w') := Lib.hid fun W hb =>
    containsAm_any _ (enters_of Tryz.func75 (by kernel_rfl) rfl) id negB (fun _ => True) p.l _ W (by rw [List.map_id]; exact h.2.2.below hb) (fun _ _ => trivial) (fun W x _ _ => below1_any x W)
  clear h
  go_enter Tryz.func40, Tryz.ntmps40
  go_wp2_with fail
  refine (CR.out _ (B0.out _)).mono ?_
  rintro e w1 ⟨rfl, hb⟩
  have e2 : w1.cell? ⟨w.heap.size, 2, none⟩ = some (.slice la ln lc) := (hb.cell (p := ⟨w.heap.size, 2, none⟩) (by simp)).trans (by rw [World.cell?_alloc_new]; rfl)
  have B1 := Lib.hid ((B0.out _).trans (hb.mono (B0.out _).size))
  clear hb CR
  cases hr : p.r.any negB with
  | true =>
    have E : Hid (pnegB p = true) := Lib.hid (by unfold pnegB; rw [hr]; rfl)
    go_wp2_with fail
    go_ret
    exact ⟨by rw [E.out]; rfl, B1.out⟩
  | false =>
    have E : Hid (pnegB p = p.l.any negB) := Lib.hid (by unfold pnegB; rw [hr]; rfl)
    go_wp2_with fail
    refine (CL.out _ B1.out).mono ?_
    rintro e w2 ⟨rfl, hb⟩
    have B2 := Lib.hid (B1.out.trans (hb.mono B1.out.size))
    clear hb CL
    go_wp2_with fail
    go_ret
    exact ⟨by rw [E.out]; rfl, B2.out⟩
/-- The parts of an object, with their places. -/
theorem pts_rows {w : World} {v : Value} {l : List Pt} (h : Pts w v l) : ∃ rs : List Pr, Row kPt w v rs ∧ rs.length = l.length ∧ ∀ k, k < l.length → PtAt w (rs.getD k kPt.z) (l.getD k ⟨⟨#[]⟩, [], []⟩) := by
  obtain ⟨rs, h1, h2, h3⟩ := h
  exact ⟨rs, h1, h2, fun k hk => h3 k hk⟩
theorem any_same {α β : Type} (xs : List α) (ys : List β) (p : α → Bool) (q : β → Bool) (dx : α) (dy : β) (hl : xs.length = ys.length) (h : ∀ k, k < ys.length → p (xs.getD k dx) = q (ys.getD k dy)) : xs.any p = ys.any q := by
  induction ys generalizing xs with
  | nil =>
    have : xs = [] := List.eq_nil_of_length_eq_zero (by simpa using hl)
    subst this; rfl
  | cons y r ih =>
    cases xs with
    | nil => simp at hl
    | cons x s =>
      have h0 := h 0 (by simp)
      simp only [List.getD_cons_zero] at h0
      rw [List.any_cons, List.any_cons, h0, ih s (by simpa using hl) (fun k hk => by have := h (k + 1) (by simpa using hk); simpa using this)]
/-- Some part names a resource; some part has an amount below 0. -/
def onamB (ps : List Pt) : Bool := ps.any namB
def onegB (ps : List Pt) : Bool := ps.any pnegB
theorem contains_names (v : Value) (l : List Pt) (w : World) (h : Pts w v l) : Calls Tryz.prog 39 #[v, .func (.func 112) #[] #[]] w fun e w' => e = .returned (.bool (onamB l)) ∧ Below w.heap.size w w' := by
  obtain ⟨rs, h1, h2, h3⟩ := pts_rows h
  have e : rs.any namP = onamB l := any_same rs l namP namB kPt.z ⟨⟨#[]⟩, [], []⟩ h2 (fun k hk => (h3 k hk).nam)
  rw [← e]
  exact containsPt_any _ (enters_of Tryz.func112 (by kernel_rfl) rfl) id namP (fun _ => True) rs v w (by rw [List.map_id]; exact h1) (fun _ _ => trivial) (fun W x _ _ => names1_any x W)
theorem contains_neg (v : Value) (l : List Pt) (w : World) (h : Pts w v l) : Calls Tryz.prog 39 #[v, .func (.func 40) #[] #[]] w fun e w' => e = .returned (.bool (onegB l)) ∧ Below w.heap.size w w' := by
  obtain ⟨rs, h1, h2, h3⟩ := pts_rows h
  have hz : ∀ x ∈ rs.zip l, PtAt w x.1 x.2 := fun x hx => by
    obtain ⟨k, hk, rfl⟩ := List.mem_iff_getElem.1 hx
    rw [List.length_zip] at hk
    have q1 : k < rs.length := by omega
    have q2 : k < l.length := by omega
    have := h3 k q2
    rw [List.getD_eq_getElem?_getD, List.getElem?_eq_getElem q1, List.getD_eq_getElem?_getD, List.getElem?_eq_getElem q2] at this
    rw [List.getElem_zip]
    exact this
  have hf : (rs.zip l).map Prod.fst = rs := List.map_fst_zip (by omega)
  have hs : (rs.zip l).map Prod.snd = l := List.map_snd_zip (by omega)
  have e : (rs.zip l).any (fun x => pnegB x.2) = onegB l := by
    have := congrArg (fun l => l.any pnegB) hs
    simp only [List.any_map] at this
    exact this
  rw [← e]
  exact containsPt_any _ (enters_of Tryz.func40 (by kernel_rfl) rfl) Prod.fst (fun x => pnegB x.2) (fun x => PtAt w x.1 x.2) (rs.zip l) v w (by rw [hf]; exact h1) hz (fun W x hb hx => neg_any x.1 x.2 W (hx.below hb))
end Go.Proofs.YtodfmnbfbndkhaaGreatDoor
