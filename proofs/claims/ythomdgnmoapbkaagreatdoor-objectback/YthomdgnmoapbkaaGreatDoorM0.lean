/-
  ObOa, ObOo, ObRg, ObOp, joined.
-/
import Derived.Test.YthomdgnmoapbkaaGreatDoorObU
import Derived.RegionTactic
import Derived.Deep.RegionLaw
import Derived.Deep.RegionHeld3
section S0
namespace Go.Proofs.YthomdgnmoapbkaaGreatDoor
open Go.RowKit
set_option maxHeartbeats 4000000 in
set_option maxRecDepth 100000 in
theorem ownAmounts_any (v : Value) (l : List Am) (w : World) (hv : Row kAm w v l) (hl : l.length * 24 ≤ 140737488355328) :
    Calls Tryz.prog 30 #[v] w fun e w' => ∃ a n c, e = .returned (.slice a n c) ∧ OwnR kAm w.heap.size w' (.slice a n c) l ∧ Below w.heap.size w w' := by
  have V := Lib.hid hv
  obtain ⟨a, cap, rfl, hlc, hcm⟩ := hv.len
  unfold maxLen at hcm
  obtain ⟨n, hn⟩ : ∃ n, n = l.length := ⟨_, rfl⟩
  rw [← hn] at hlc hl V ⊢
  have HN := Lib.hid hn
  clear hv hn
  go_enter Tryz.func30, Tryz.ntmps30
  go_wp2_with fail
  go_loopg [3, 4] n (fun gg so si wr => ∃ (k : Nat) (a' : Option Addr) (m c : Nat), k ≤ n ∧ gg = n - k ∧ si = .int .i64 k ∧ so = .slice a' m c ∧ OwnR kAm w.heap.size wr (.slice a' m c) (l.take k) ∧ Below w.heap.size w wr)
  case atStart => exact ⟨0, none, 0, 0, Nat.zero_le _, rfl, rfl, rfl, OwnR.nil _ _ _, Below.refl _ _⟩
  case round =>
    obtain ⟨k, a', m, c, hk, hg, rfl, rfl, ho, hb⟩ := hrel
    have R : Aside (gk = n - k ∧ OwnR kAm w.heap.size wr (.slice a' m c) (l.take k) ∧ Below w.heap.size w wr) := ⟨hg, ho, hb⟩
    clear hg ho hb
    by_cases hlt : k < n
    · have hlt' : (k : Int) < (n : Int) := by omega
      obtain ⟨b, off, rfl, pc⟩ := (V.out.below R.out.2.2).at k (by rw [← HN.out]; exact hlt)
      have ST := Lib.hid (take_onez l k kAm.z (by rw [← HN.out]; exact hlt))
      obtain ⟨x, hx⟩ : ∃ x, x = l.getD k kAm.z := ⟨_, rfl⟩
      rw [← hx] at pc ST
      obtain ⟨xn, xv⟩ := x
      have c0 : wr.cell? ⟨b, off + k * 2, none⟩ = some (.string xn) := pc 0 _ rfl
      have c1 : wr.cell? ⟨b, off + k * 2 + 1, none⟩ = some (.int .i64 xv) := pc 1 _ rfl
      have LN : Hid (((l.take k).length + 1) * kAm.b ≤ 140737488355328) := Lib.hid (by rw [List.length_take]; show (min k l.length + 1) * 24 ≤ 140737488355328; omega)
      clear pc hx
      obtain ⟨acc, hacc⟩ : ∃ acc, acc = l.take k := ⟨_, rfl⟩
      rw [← hacc] at ST LN R
      clear hacc
      go_wp2_with (at_builtin; refine app_rowB okAm (gg := wr.heap.size) rfl _ _ rfl rfl R.out.2.1 R.out.2.2.size ⟨xn, xv⟩ ?hgg rfl rfl LN.out ?_)
      case hgg => simp
      intro v' w' h1 h2
      obtain ⟨a2, c2, rfl⟩ := h1.slice
      have A : Aside (OwnR kAm w.heap.size w' (.slice a2 (acc ++ [(⟨xn, xv⟩ : Am)]).length c2) (l.take (k + 1)) ∧ Below w.heap.size w w') := by
        refine ⟨?_, R.out.2.2.trans (grown_belowR h2 R.out.2.1 R.out.2.2.size)⟩
        rw [ST.out]; exact h1
      clear h1 h2
      go_wp2_with fail
      go_roundg (n - (k + 1))
      case measure => have := R.out.1; omega
      case rel => exact ⟨k + 1, a2, _, c2, by omega, rfl, by go_num, rfl, A.out.1, A.out.2⟩
    · have E : Aside (l.take k = l) := List.take_of_length_le (by rw [← HN.out]; omega)
      go_wp2_with fail
      go_ret
      exact ⟨a', m, c, rfl, by have := R.out.2.1; rw [E.out] at this; exact this, R.out.2.2⟩
end Go.Proofs.YthomdgnmoapbkaaGreatDoor
end S0

section S1
namespace Go.Proofs.YthomdgnmoapbkaaGreatDoor
open Go.RowKit
structure OO (w : World) (bp bz bo : Nat) (x : Ob) (u1 u2 vl vp : Value) (ls : List (ByteArray × ByteArray)) (rs : List Pr) (ps : List Pt) (W : World) : Prop where
  a : W.heap[bp]? = some (.cells #[.string x.p, .string x.n, u1, .int .i64 x.pr, .int .i64 x.dl, u2, .int .i64 x.ver] 25 (0, 0))
  z : W.heap[bz]? = some (.cells #[.string ⟨#[]⟩, .string ⟨#[]⟩, .slice none 0 0, .int .i64 0, .int .i64 0, .slice none 0 0, .int .i64 0] 25 (0, 0))
  o : W.heap[bo]? = some (.cells #[.string x.p, .string x.n, vl, .int .i64 x.pr, .int .i64 x.dl, vp, .int .i64 x.ver] 25 (0, 0))
  l : OwnR kLb w.heap.size W vl ls
  p : OwnR kPt w.heap.size W vp rs
  q : Nst w.heap.size W rs ps
  be : Below w.heap.size w W
  bs : w.heap.size ≤ bp ∧ w.heap.size ≤ bz ∧ w.heap.size ≤ bo ∧ bp ≠ bo ∧ bz ≠ bo
variable {w W W' : World} {bp bz bo : Nat} {x : Ob} {u1 u2 vl vp : Value} {ls : List (ByteArray × ByteArray)} {rs : List Pr} {ps : List Pt}
theorem OO.below (h : OO w bp bz bo x u1 u2 vl vp ls rs ps W) (hb : Below W.heap.size W W') : OO w bp bz bo x u1 u2 vl vp ls rs ps W' :=
  ⟨by rw [hb.block _ (lt_of_some h.a)]; exact h.a, by rw [hb.block _ (lt_of_some h.z)]; exact h.z, by rw [hb.block _ (lt_of_some h.o)]; exact h.o, h.l.below hb, h.p.below hb, ⟨h.q.1, fun k hk => ⟨(h.q.2 k hk).1, (h.q.2 k hk).2.1.below hb, (h.q.2 k hk).2.2.below hb⟩⟩, h.be.trans (hb.mono h.be.size), h.bs⟩
theorem OO.drew (h : OO w bp bz bo x u1 u2 vl vp ls rs ps W) : OO w bp bz bo x u1 u2 vl vp ls rs ps W.drew := h.below ⟨rfl, rfl, rfl, Nat.le_refl _, fun _ _ => rfl⟩
theorem OO.rows (h : OO w bp bz bo x u1 u2 vl vp ls rs ps W) {F : Nat → Prop} (hk : Kept F W W') (hF : ∀ k cs m, F k → W.heap[k]? ≠ some (.cells cs 25 m)) : W'.heap[bp]? = some (.cells #[.string x.p, .string x.n, u1, .int .i64 x.pr, .int .i64 x.dl, u2, .int .i64 x.ver] 25 (0, 0)) ∧ W'.heap[bz]? = some (.cells #[.string ⟨#[]⟩, .string ⟨#[]⟩, .slice none 0 0, .int .i64 0, .int .i64 0, .slice none 0 0, .int .i64 0] 25 (0, 0)) ∧ W'.heap[bo]? = some (.cells #[.string x.p, .string x.n, vl, .int .i64 x.pr, .int .i64 x.dl, vp, .int .i64 x.ver] 25 (0, 0)) :=
  ⟨by rw [hk.block _ (lt_of_some h.a) (fun e => hF _ _ _ e h.a)]; exact h.a, by rw [hk.block _ (lt_of_some h.z) (fun e => hF _ _ _ e h.z)]; exact h.z, by rw [hk.block _ (lt_of_some h.o) (fun e => hF _ _ _ e h.o)]; exact h.o⟩
theorem own_tb {α : Type} {K : Kd α} {B : Nat} {W : World} {v : Value} {l : List α} (h : OwnR K B W v l) (t : TypeId) (ht : t ≠ K.t) : ∀ k cs m, some k = v.ownBlock → W.heap[k]? ≠ some (.cells cs t m) := fun k cs m e q => by
  obtain ⟨cs', m', h'⟩ := h.ty k e.symm
  rw [h'] at q; simp only [Option.some.injEq, Obj.cells.injEq] at q; exact ht q.2.1.symm
theorem row_tb {W : World} {b : Nat} {c : Array Value} (h : W.heap[b]? = some (.cells c 25 (0, 0))) (t : TypeId) (ht : t ≠ 25) : ∀ k cs m, k = b → W.heap[k]? ≠ some (.cells cs t m) := fun k cs m e q => by
  rw [e, h] at q; simp only [Option.some.injEq, Obj.cells.injEq] at q; exact ht q.2.1.symm
theorem OO.label (h : OO w bp bz bo x u1 u2 vl vp ls rs ps W) {v' : Value} {y : ByteArray × ByteArray} (ho : OwnR kLb w.heap.size W' v' (ls ++ [y])) (hg : W.grownBy W' vl.ownBlock) : OO w bp bz bo x u1 u2 v' vp (ls ++ [y]) rs ps (W'.setCell ⟨bo, 2, none⟩ v') := by
  have hk := grown_kept hg
  obtain ⟨ga, gz, go⟩ := h.rows hk (own_tb h.l _ (by decide))
  have k2 : Kept (fun k => k = bo) W' (W'.setCell ⟨bo, 2, none⟩ v') := kept_set _ _ _ rfl
  have hb := h.bs
  have bW : Below w.heap.size w W' := h.be.trans (grown_belowR hg h.l h.be.size)
  exact ⟨by rw [k2.block bp (lt_of_some ga) (by omega)]; exact ga, by rw [k2.block bz (lt_of_some gz) (by omega)]; exact gz, by rw [Go.heap_setCell_same W' bo 2 _ _ _ go]; rfl, ho.kept_ty k2 (row_tb go _ (by decide)), (h.p.kept_ty hk (own_tb h.l _ (by decide))).kept_ty k2 (row_tb go _ (by decide)), (h.q.kept hk (own_tb h.l _ (by decide))).kept k2 (row_tb go _ (by decide)), bW.trans (k2.below bW.size (fun x hx => by omega)), h.bs⟩
theorem OO.part (h : OO w bp bz bo x u1 u2 vl vp ls rs ps W) {v' : Value} {r : Pr} {y : Pt} (ho : OwnR kPt w.heap.size W' v' (rs ++ [r])) (hg : W.grownBy W' vp.ownBlock) (h1 : r.n = y.n) (h2 : OwnR kAm w.heap.size W r.r.v y.r) (h3 : OwnR kAm w.heap.size W r.l.v y.l) : OO w bp bz bo x u1 u2 vl v' ls (rs ++ [r]) (ps ++ [y]) (W'.setCell ⟨bo, 5, none⟩ v') := by
  have hk := grown_kept hg
  obtain ⟨ga, gz, go⟩ := h.rows hk (own_tb h.p _ (by decide))
  have k2 : Kept (fun k => k = bo) W' (W'.setCell ⟨bo, 5, none⟩ v') := kept_set _ _ _ rfl
  have hb := h.bs
  have bW : Below w.heap.size w W' := h.be.trans (grown_belowR hg h.p h.be.size)
  exact ⟨by rw [k2.block bp (lt_of_some ga) (by omega)]; exact ga, by rw [k2.block bz (lt_of_some gz) (by omega)]; exact gz, by rw [Go.heap_setCell_same W' bo 5 _ _ _ go]; rfl, (h.l.kept_ty hk (own_tb h.p _ (by decide))).kept_ty k2 (row_tb go _ (by decide)), ho.kept_ty k2 (row_tb go _ (by decide)), ((h.q.add h1 h2 h3).kept hk (own_tb h.p _ (by decide))).kept k2 (row_tb go _ (by decide)), bW.trans (k2.below bW.size (fun x hx => by omega)), h.bs⟩
theorem OO.done (h : OO w bp bz bo x u1 u2 vl vp ls rs ps W) (cs : Array Value) : (∃ r, OwnR kLb w.heap.size (W.setRow bz cs) vl ls ∧ OwnR kPt w.heap.size (W.setRow bz cs) vp r ∧ Nst w.heap.size (W.setRow bz cs) r ps) ∧ Below w.heap.size w (W.setRow bz cs) := by
  have hk := kept_setRow W bz cs
  have hb := h.bs
  exact ⟨⟨rs, h.l.kept_ty hk (row_tb h.z _ (by decide)), h.p.kept_ty hk (row_tb h.z _ (by decide)), h.q.kept hk (row_tb h.z _ (by decide))⟩, h.be.trans (hk.below h.be.size (fun x hx => by omega))⟩
theorem step_own {ops : Array Oper} {o : Oper} {a : Act} {K : Act → World → Prop} {Q : Exit → Act → World → Prop} {E : Prop} (hgd : o.guard = none) (y : Operand) (ts : Array TypeId)
    (ho : o.op = .call { callee := .value (.func 30), args := #[y], argTypes := ts }) (v : Value) (l : List Am) (W : World) (hy : a.eval y = v) (hr : Row kAm W v l) (hl : l.length * 24 ≤ 140737488355328)
    (h : ∀ a1 n1 c1 w1, Hid (OwnR kAm W.heap.size w1 (.slice a1 n1 c1) l ∧ Below W.heap.size W w1) → K (a.put o.dst (.slice a1 n1 c1)) w1) :
    if Region.wanted o (yielded ops a.tmps) = true then Oper.wp Tryz.prog o a W K Q else E := by
  refine step_call (P := fun V w1 => ∃ a1 n1 c1, V = .slice a1 n1 c1 ∧ OwnR kAm W.heap.size w1 (.slice a1 n1 c1) l ∧ Below W.heap.size W w1) (enters _ _ Tryz.func30 (by kernel_rfl) (by kernel_rfl)) hgd y ts ho hy ((ownAmounts_any v l W hr hl).mono fun _ _ q => ?_) ?_
  · obtain ⟨a1, n1, c1, rfl, q2⟩ := q
    exact ⟨_, rfl, a1, n1, c1, rfl, q2⟩
  · rintro V w1 hp
    obtain ⟨a1, n1, c1, rfl, q2⟩ := hp.out
    exact h a1 n1 c1 w1 (Lib.hid q2)
end Go.Proofs.YthomdgnmoapbkaaGreatDoor
end S1

section S2
namespace Go.Proofs.YthomdgnmoapbkaaGreatDoor
open Go Go.RowKit
section
variable {P : Program} {ops : Array Oper} {Q : Exit → Act → World → Prop} {md : Region.Mode} {S0 S1 : World → Prop} {h i : Nat} {oi : Oper} {v : Value}
def wpTwo (P : Program) (md : Region.Mode) (ops : Array Oper) (Q : Exit → Act → World → Prop) (S0 S1 : World → Prop) (h : Nat) : Nat → Array Bool → Act → World → Prop
  | 0, l, a, w => Region.ready md ops l = [] ∧ Q .normal a w
  | n + 1, l, a, w => (Region.ready md ops l = [] → Q .normal a w) ∧
    ∀ j ∈ Region.ready md ops l, wpOp P ops Q j (fun a' w' => (S0 w' ∧ ((l.setIfInBounds j true).getD h true = false → S1 w')) ∧ wpTwo P md ops Q S0 S1 h n (l.setIfInBounds j true) a' w') a w
theorem two_any : ∀ (n : Nat) (l : Array Bool) (a : Act) (w : World), wpTwo P md ops Q S0 S1 h n l a w → wpAny P md ops Q n l a w := by
  intro n
  induction n with
  | zero => exact fun l a w q => q
  | succ n ih => exact fun l a w q => ⟨q.1, fun j hj => wpOp_mono (fun a' w' r => ih _ a' w' r.2) (q.2 j hj)⟩
theorem two_first {I : Array Bool → Prop} {S' : World → Prop} (hi : ops[i]? = some oi) (hsel : Region.noSelect ops = true) (hQ : ∀ c a w, Q (.panic c) (a.put oi.dst v) w → Q (.panic c) a w) (hne : h ≠ i)
    (step : ∀ l j, I l → i ∈ Region.ready md ops l → j ∈ Region.ready md ops l → j ≠ i → I (l.setIfInBounds j true) ∧ ∀ w, S0 w → (((l.setIfInBounds i true).setIfInBounds j true).getD h true = false → S1 w) → S' w) :
    ∀ (n : Nat) (l : Array Bool) (a : Act) (w : World), (∀ j oj, ops[j]? = some oj → j ≠ i → l.getD j true = false → (∀ e ∈ oj.after, Region.binds md e = true → e.on ≠ i) → oi.apart ops oj = true) →
      I l → i ∈ Region.ready md ops l → YieldsIf P ops S' oi v a → S' w → (S0 w ∧ (l.getD h true = false → S1 w)) →
      wpTwo P md ops Q S0 S1 h n (l.setIfInBounds i true) (a.put oi.dst v) w → wpTwo P md ops Q S0 S1 h (n + 1) l a w := by
  intro n
  induction n with
  | zero =>
    intro l a w _ hI hr hy hS hB H
    refine ⟨fun q => (by rw [q] at hr; cases hr), fun j hj => ?_⟩
    rcases Classical.em (j = i) with e | e
    · rw [e]; exact hy.wpOp hi hS ⟨⟨hB.1, fun q => hB.2 (by rw [getD_set_ne true (Ne.symm hne)] at q; exact q)⟩, H⟩
    · have q := ready_mono (i := i) hj e
      rw [H.1] at q
      cases q
  | succ n ih =>
    intro l a w hfree hI hr hy hS hB H
    refine ⟨fun q => (by rw [q] at hr; cases hr), fun j hj => ?_⟩
    rcases Classical.em (j = i) with e | e
    · rw [e]; exact hy.wpOp hi hS ⟨⟨hB.1, fun q => hB.2 (by rw [getD_set_ne true (Ne.symm hne)] at q; exact q)⟩, H⟩
    · obtain ⟨un, oj, hoj, all⟩ := mem_ready.1 hj
      have nw : ∀ d ∈ oj.after, Region.binds md d = true → d.on ≠ i := by
        intro d hd hb q
        have c1 := all d hd hb
        have c0 := (mem_ready.1 hr).1
        rw [q] at c1
        rcases Nat.lt_or_ge i l.size with z | z
        · simp [z] at c0 c1; rw [c0] at c1; cases c1
        · simp [Array.getElem?_eq_none z] at c1
      have swap := wpOp_putIf (S := S') hoj (hfree j oj hoj e un nw) (fun cs b => Region.noSelect_spec hsel i oi cs b hi) (fun cs b => Region.noSelect_spec hsel j oj cs b hoj) hQ hy (H.2 j (ready_mono hj e))
      refine wpOp_mono (fun a' w' r => ?_) swap
      obtain ⟨y', ⟨s0, s1⟩, H'⟩ := r
      have st := step l j hI hr hj e
      have c9 : (l.setIfInBounds j true).getD h true = false → S1 w' := fun q => s1 (by
        rw [Array.setIfInBounds_comm _ _ (Ne.symm e), getD_set_ne true (Ne.symm hne)]; exact q)
      refine ⟨⟨s0, c9⟩, ih (l.setIfInBounds j true) a' w' ?_ st.1 (ready_mono hr (Ne.symm e)) y' (st.2 w' s0 s1) ⟨s0, c9⟩ ?_⟩
      · intro k ok hk hki hun hno
        refine hfree k ok hk hki ?_ hno
        rcases Classical.em (j = k) with z | z
        · rw [← z]; exact un
        · rw [getD_set_ne true z] at hun; exact hun
      · rw [Array.setIfInBounds_comm _ _ e]; exact H'
/-- Take an operation that yields in every world that meets S0. -/
theorem two_take0 {n : Nat} {l : Array Bool} {a : Act} {w : World} (hi : ops[i]? = some oi) (hs : Region.noSelect ops = true) (hf : Region.free md ops l i = true) (hr : (Region.ready md ops l).contains i = true) (hne : (h == i) = false)
    (hQ : ∀ c a w, Q (.panic c) (a.put oi.dst v) w → Q (.panic c) a w) (hy : YieldsIf P ops S0 oi v a) (hB : S0 w ∧ (l.getD h true = false → S1 w))
    (H : wpTwo P md ops Q S0 S1 h n (l.setIfInBounds i true) (a.put oi.dst v) w) : wpTwo P md ops Q S0 S1 h (n + 1) l a w :=
  two_first (I := fun _ => True) (S' := S0) hi hs hQ (by simpa using hne) (fun _ _ _ _ _ _ => ⟨trivial, fun _ q _ => q⟩) n l a w (Region.free_spec hi hf) trivial (by simpa using hr) hy hB.1 hB H
/-- Take a load that yields till h comes up, which waits for it. -/
theorem two_take1 {n : Nat} {l : Array Bool} {a : Act} {w : World} (oh : Oper) (hi : ops[i]? = some oi) (hs : Region.noSelect ops = true) (hf : Region.free md ops l i = true) (hr : (Region.ready md ops l).contains i = true) (hne : (h == i) = false)
    (hh : ops[h]? = some oh) (hd : oh.after.any (fun e => Region.binds md e && e.on == i) = true) (hl : l.getD h true = false)
    (hQ : ∀ c a w, Q (.panic c) (a.put oi.dst v) w → Q (.panic c) a w) (hy : YieldsIf P ops S1 oi v a) (hB : S0 w ∧ (l.getD h true = false → S1 w))
    (H : wpTwo P md ops Q S0 S1 h n (l.setIfInBounds i true) (a.put oi.dst v) w) : wpTwo P md ops Q S0 S1 h (n + 1) l a w := by
  have hn : h ≠ i := by simpa using hne
  refine two_first (I := fun l => l.getD h true = false) (S' := S1) hi hs hQ hn (fun l j hI hri hj e => ?_) n l a w (Region.free_spec hi hf) hl (by simpa using hr) hy (hB.2 hl) hB H
  have jh : j ≠ h := by
    intro q
    obtain ⟨un, oj, hoj, all⟩ := mem_ready.1 hj
    rw [q, hh] at hoj
    obtain rfl := Option.some.inj hoj
    obtain ⟨k, hk, hb⟩ := Array.any_eq_true.1 hd
    have hm : oh.after[k] ∈ oh.after := Array.getElem_mem hk
    simp only [Bool.and_eq_true, beq_iff_eq] at hb
    have c1 := all _ hm hb.1
    have c0 := (mem_ready.1 hri).1
    rw [hb.2] at c1
    rcases Nat.lt_or_ge i l.size with z | z
    · simp [z] at c0 c1; rw [c0] at c1; cases c1
    · simp [Array.getElem?_eq_none z] at c1
  have g1 : (l.setIfInBounds j true).getD h true = false := by rw [getD_set_ne true jh]; exact hI
  refine ⟨g1, fun w _ q => q ?_⟩
  rw [Array.setIfInBounds_comm _ _ (Ne.symm e), getD_set_ne true (Ne.symm hn)]; exact g1
/-- One alone may come up. -/
theorem two_one {n : Nat} {l : Array Bool} {a : Act} {w : World} {j : Nat} {o : Oper} (hr : Region.ready md ops l = [j]) (ho : ops[j]? = some o)
    (H : ∀ K : Act → World → Prop, Shut (∀ a' w', (S0 w' ∧ ((l.setIfInBounds j true).getD h true = false → S1 w')) → wpTwo P md ops Q S0 S1 h n (l.setIfInBounds j true) a' w' → K a' w') → if Region.wanted o (yielded ops a.tmps) = true then Oper.wp P o a w K Q else K (a.put o.dst undef) w) :
    wpTwo P md ops Q S0 S1 h (n + 1) l a w :=
  ⟨fun q => (by rw [q] at hr; cases hr), fun k hk => by
    rw [hr, List.mem_singleton] at hk
    subst hk
    exact wpOp_step ho (fun K hK => H K (fun a' w' q r => hK a' w' ⟨q, r⟩))⟩
theorem two_done {l : Array Bool} {a : Act} {w : World} (hr : Region.ready md ops l = []) (H : Q .normal a w) : ∀ n, wpTwo P md ops Q S0 S1 h n l a w
  | 0 => ⟨hr, H⟩
  | _ + 1 => ⟨fun _ => H, by rw [hr]; simp⟩
theorem region_two {id : Nat} {a : Act} {w : World} (S0 S1 : World → Prop) (h : Nat) (hm : P.follows .mixedOrders = true) (H : wpTwo P .any ops Q S0 S1 h ops.size (Array.replicate ops.size false) a w.drew) : (Code.region id ops true).wp P Q a w :=
  wp_region_any hm (two_any _ _ _ _ H)
end
end Go.Proofs.YthomdgnmoapbkaaGreatDoor
end S2

section S3
namespace Go.Proofs.YthomdgnmoapbkaaGreatDoor
open Go.RowKit
theorem grown_cell {w0 w1 : World} {r : Option Nat} (h : w0.grownBy w1 r) {b j : Nat} (hn : r ≠ some b) (hl : b < w0.heap.size) : w1.cell? ⟨b, j, none⟩ = w0.cell? ⟨b, j, none⟩ := by
  have := (grown_kept h).block b hl (fun e => hn e.symm)
  simp only [World.cell?, this]
theorem set_cell {W : World} {b bo i j : Nat} {y : Value} (hn : b ≠ bo) (hl : b < W.heap.size) : (W.setCell ⟨bo, i, none⟩ y).cell? ⟨b, j, none⟩ = W.cell? ⟨b, j, none⟩ := by
  have := (kept_set (F := fun k => k = bo) W ⟨bo, i, none⟩ y rfl).block b hl hn
  simp only [World.cell?, this]
set_option maxHeartbeats 16000000 in
set_option maxRecDepth 100000 in
theorem ownObject_any (x : Ob) (u v : Value) (w : World) (hx : ObV w u v x) (hl : x.ls.length * 32 ≤ 140737488355328) (hp : x.ps.length * 64 ≤ 140737488355328) (hq : ∀ y ∈ x.ps, y.r.length * 24 ≤ 140737488355328 ∧ y.l.length * 24 ≤ 140737488355328) :
    Calls Tryz.prog 6 #[x.val u v] w fun e w' => ∃ vl vp, e = .returned (x.val vl vp) ∧ ObO w.heap.size w' vl vp x ∧ Below w.heap.size w w' := by
  obtain ⟨op, on, ols, opr, odl, ops, ov⟩ := x
  simp only at hl hp hq
  have V := Lib.hid hx
  obtain ⟨la, lc, rfl, hlc, hcm⟩ := hx.l.len
  obtain ⟨pa, pc, rfl, hlp, hcp⟩ := hx.p.len
  unfold maxLen at hcm hcp
  unfold Ob.val
  simp only at hlc hlp V ⊢
  obtain ⟨nl, hnl⟩ : ∃ nl, nl = ols.length := ⟨_, rfl⟩
  obtain ⟨np, hnp⟩ : ∃ np, np = ops.length := ⟨_, rfl⟩
  rw [← hnl] at hlc hl V ⊢
  rw [← hnp] at hlp hp V ⊢
  have HN := Lib.hid (And.intro hnl hnp)
  have HQ := Lib.hid hq
  clear hx hnl hnp hq
  obtain ⟨X1, hX1⟩ : ∃ X1, X1 = w.alloc (.cells #[.string op, .string on, (.slice la nl lc), .int .i64 opr, .int .i64 odl, (.slice pa np pc), .int .i64 ov] 25) := ⟨_, rfl⟩
  obtain ⟨X2, hX2⟩ : ∃ X2, X2 = X1.alloc (.cells #[.string ⟨#[]⟩, .string ⟨#[]⟩, .slice none 0 0, .int .i64 0, .int .i64 0, .slice none 0 0, .int .i64 0] 25) := ⟨_, rfl⟩
  obtain ⟨X3, hX3⟩ : ∃ X3, X3 = X2.alloc (.cells #[.string op, .string on, .slice none 0 0, .int .i64 opr, .int .i64 odl, .slice none 0 0, .int .i64 ov] 25) := ⟨_, rfl⟩
  have s1 : X1.heap.size = w.heap.size + 1 := by rw [hX1]; simp
  have s2 : X2.heap.size = w.heap.size + 2 := by rw [hX2]; simp [s1]
  have B1 : Below w.heap.size w X1 := by rw [hX1]; exact (Below.refl _ w).alloc (Nat.le_refl _) _
  have B2 : Below X1.heap.size X1 X2 := by rw [hX2]; exact (Below.refl _ X1).alloc (Nat.le_refl _) _
  have B3 : Below X2.heap.size X2 X3 := by rw [hX3]; exact (Below.refl _ X2).alloc (Nat.le_refl _) _
  have r1 : X1.heap[w.heap.size]? = some (.cells #[.string op, .string on, (.slice la nl lc), .int .i64 opr, .int .i64 odl, (.slice pa np pc), .int .i64 ov] 25 (0, 0)) := by rw [hX1, heap_alloc_new]
  have r2 : X2.heap[w.heap.size + 1]? = some (.cells #[.string ⟨#[]⟩, .string ⟨#[]⟩, .slice none 0 0, .int .i64 0, .int .i64 0, .slice none 0 0, .int .i64 0] 25 (0, 0)) := by rw [hX2, ← s1, heap_alloc_new]
  have r3 : X3.heap[w.heap.size + 2]? = some (.cells #[.string op, .string on, .slice none 0 0, .int .i64 opr, .int .i64 odl, .slice none 0 0, .int .i64 ov] 25 (0, 0)) := by rw [hX3, ← s2, heap_alloc_new]
  have BB : Below w.heap.size w X3 := (B1.trans (B2.mono B1.size)).trans (B3.mono (by omega))
  obtain ⟨bo, hbo⟩ : ∃ bo, bo = w.heap.size + 1 + 1 := ⟨_, rfl⟩
  have T0 : Aside (OO w w.heap.size (w.heap.size + 1) bo ⟨op, on, ols, opr, odl, ops, ov⟩ (.slice la nl lc) (.slice pa np pc) (.slice none 0 0) (.slice none 0 0) [] [] [] X3) := by
    refine ⟨?_, ?_, by rw [hbo]; exact r3, OwnR.nil _ _ _, OwnR.nil _ _ _, ⟨rfl, fun k hk => by simp at hk⟩, BB, by omega⟩
    · rw [B3.block _ (by omega), B2.block _ (by omega)]; exact r1
    · rw [B3.block _ (by omega)]; exact r2
  have EX : Hid (X3 = ((w.alloc (.cells #[.string op, .string on, (.slice la nl lc), .int .i64 opr, .int .i64 odl, (.slice pa np pc), .int .i64 ov] 25)).alloc (.cells #[.string ⟨#[]⟩, .string ⟨#[]⟩, .slice none 0 0, .int .i64 0, .int .i64 0, .slice none 0 0, .int .i64 0] 25)).alloc (.cells #[.string op, .string on, .slice none 0 0, .int .i64 opr, .int .i64 odl, .slice none 0 0, .int .i64 ov] 25)) := Lib.hid (by rw [hX3, hX2, hX1])
  have HBO := Lib.hid hbo
  clear hX1 hX2 hX3 s1 s2 B1 B2 B3 r1 r2 r3 BB hbo
  go_enter Tryz.func6, Tryz.ntmps6
  go_wp2_with fail
  rw [← EX.out]
  clear EX
  rw [← HBO.out]
  go_loopg [4] nl (fun gg si wr => ∃ (k : Nat) (a : Option Addr) (c d : Nat), k ≤ nl ∧ gg = nl - k ∧ si = .int .i64 k ∧ OO w w.heap.size (w.heap.size + 1) bo ⟨op, on, ols, opr, odl, ops, ov⟩ (.slice la nl lc) (.slice pa np pc) (.slice a c d) (.slice none 0 0) (ols.take k) [] [] wr)
  case atStart => exact ⟨0, none, 0, 0, Nat.zero_le _, rfl, rfl, T0.out⟩
  case round =>
    clear T0
    obtain ⟨k, a, c, d, hk, hg, rfl, hlo⟩ := hrel
    have R : Aside (gk = nl - k ∧ OO w w.heap.size (w.heap.size + 1) bo ⟨op, on, ols, opr, odl, ops, ov⟩ (.slice la nl lc) (.slice pa np pc) (.slice a c d) (.slice none 0 0) (ols.take k) [] [] wr) := ⟨hg, hlo⟩
    have k2 : wr.cell? ⟨w.heap.size, 2, none⟩ = some (.slice la nl lc) := by rw [cell_of_row wr _ 2 _ _ _ hlo.a]; rfl
    clear hg hlo
    by_cases hlt : k < nl
    · have hlt' : (k : Int) < (nl : Int) := by omega
      have hlt2 : k < ols.length := by rw [← HN.out.1]; exact hlt
      obtain ⟨b, off, rfl, pc9⟩ := (V.out.l.below R.out.2.be).at k hlt2
      simp only at pc9
      have ST := Lib.hid (take_onez ols k kLb.z hlt2)
      have LN : Hid (((ols.take k).length + 1) * kLb.b ≤ 140737488355328) := Lib.hid (by rw [List.length_take]; show (min k ols.length + 1) * 32 ≤ 140737488355328; omega)
      obtain ⟨y, hy⟩ : ∃ y, y = ols.getD k kLb.z := ⟨_, rfl⟩
      rw [← hy] at pc9 ST
      clear hy hlt2
      obtain ⟨acc, hacc⟩ : ∃ acc, acc = ols.take k := ⟨_, rfl⟩
      rw [← hacc] at ST LN R
      clear hacc
      obtain ⟨y1, y2⟩ := y
      have TD := Lib.hid R.out.2.drew
      have dc : ∀ ad v, wr.cell? ad = some v → wr.drew.cell? ad = some v := fun ad v q => q
      have p0 := dc _ _ (show wr.cell? ⟨b, off + k * 2, none⟩ = some (.string y1) from pc9 0 _ rfl)
      have p1 := dc _ _ (show wr.cell? ⟨b, off + k * 2 + 1, none⟩ = some (.string y2) from pc9 1 _ rfl)
      have e2 : wr.drew.cell? ⟨bo, 2, none⟩ = some (.slice a c d) := by rw [cell_of_row wr.drew _ 2 _ _ _ TD.out.o]; rfl
      have a2 := dc _ _ k2
      have LB : Hid (w.heap.size ≤ wr.drew.heap.size) := Lib.hid TD.out.be.size
      have mA : ∀ ob, (wr.drew.alloc ob).cell? ⟨bo, 2, none⟩ = some (.slice a c d) := fun ob => by rw [((Below.refl wr.drew.heap.size wr.drew).alloc (Nat.le_refl _) ob).cell (block_lt_of_cell e2)]; exact e2
      have mB : ∀ ob, (wr.alloc ob).cell? ⟨bo, 2, none⟩ = some (.slice a c d) := fun ob => mA ob
      have e3 : wr.cell? ⟨bo, 2, none⟩ = some (.slice a c d) := e2
      clear pc9 dc
      go_wp2_with fail
      go_region_law (first | (refine step_rowB okLb rfl (.tmp 18) (.tmp 24) rfl (B := w.heap.size) (w0 := wr.drew) (v := .slice a c d) (es := acc) rfl TD.out.l LB.out (y1, y2) rfl rfl LN.out ?_; intro a3 n3 c3 w7 H7; have GN := Lib.hid (TD.out.rows (grown_kept H7.out.2.1) (own_tb TD.out.l _ (by decide))).2.2; have f2 : w7.frozen? ⟨bo, 2, none⟩ = false := frozen_of_row _ _ _ _ _ GN.out; have z2 : w7.cell? ⟨bo, 2, none⟩ = some (.slice a c d) := by rw [cell_of_row w7 _ 2 _ _ _ GN.out]; rfl))
      all_goals
        have S8 := Lib.hid (TD.out.label H7.out.1 H7.out.2.1)
        rw [← ST.out] at S8
        clear f2 z2 mA mB e3 e2 a2 k2 p0 p1
        obtain ⟨W4, hW4⟩ : ∃ W4, w7.setCell ⟨bo, 2, none⟩ (.slice a3 n3 c3) = W4 := ⟨_, rfl⟩
        rw [hW4] at S8
        rw [hW4]
        clear hW4
        go_wp2_with fail
        go_roundg (nl - (k + 1))
        case measure => have := R.out.1; omega
        case rel => exact ⟨k + 1, a3, n3, c3, by omega, rfl, by go_num, S8.out⟩
    · have T1 : Aside (OO w w.heap.size (w.heap.size + 1) bo ⟨op, on, ols, opr, odl, ops, ov⟩ (.slice la nl lc) (.slice pa np pc) (.slice a c d) (.slice none 0 0) ols [] [] wr) := by
        have := R.out.2; rw [List.take_of_length_le (by rw [← HN.out.1]; omega)] at this; exact this
      clear R
      go_wp2_with fail
      clear k2
      go_loopg [5] np (fun gg si ws => ∃ (k : Nat) (rs : List Pr) (a' : Option Addr) (c' d' : Nat), k ≤ np ∧ gg = np - k ∧ si = .int .i64 k ∧ OO w w.heap.size (w.heap.size + 1) bo ⟨op, on, ols, opr, odl, ops, ov⟩ (.slice la nl lc) (.slice pa np pc) (.slice a c d) (.slice a' c' d') ols rs (ops.take k) ws)
      case atStart => exact ⟨0, [], none, 0, 0, Nat.zero_le _, rfl, rfl, T1.out⟩
      case round =>
        clear T1
        obtain ⟨k, rs, a', c', d', hk', hg, rfl, hlo⟩ := hrel
        have R : Aside (gk = np - k ∧ OO w w.heap.size (w.heap.size + 1) bo ⟨op, on, ols, opr, odl, ops, ov⟩ (.slice la nl lc) (.slice pa np pc) (.slice a c d) (.slice a' c' d') ols rs (ops.take k) wr) := ⟨hg, hlo⟩
        have k5 : wr.cell? ⟨w.heap.size, 5, none⟩ = some (.slice pa np pc) := by rw [cell_of_row wr _ 5 _ _ _ hlo.a]; rfl
        clear hg hlo
        by_cases hlt : k < np
        · have hlt' : (k : Int) < (np : Int) := by omega
          have hlt2 : k < ops.length := by rw [← HN.out.2]; exact hlt
          obtain ⟨b, off, ra, rb, rfl, c0, c1, c2, hra, hrb⟩ := (V.out.p.below R.out.2.be).at k hlt2
          simp only at c0 c1 c2 hra hrb
          obtain ⟨y, hy⟩ : ∃ y, y = ops.getD k ⟨⟨#[]⟩, [], []⟩ := ⟨_, rfl⟩
          have HS := HQ.out _ (getD_in (d := ⟨⟨#[]⟩, [], []⟩) hlt2)
          have ST := Lib.hid (take_onez ops k ⟨⟨#[]⟩, [], []⟩ hlt2)
          have LN : Hid ((rs.length + 1) * kPt.b ≤ 140737488355328) := Lib.hid (by have := R.out.2.q.1; rw [List.length_take] at this; show (rs.length + 1) * 64 ≤ 140737488355328; omega)
          rw [← hy] at c0 hra hrb HS ST
          clear hy hlt2
          obtain ⟨xn, xr, xl⟩ := y
          obtain ⟨ra1, ra2, ra3⟩ := ra
          obtain ⟨rb1, rb2, rb3⟩ := rb
          unfold Sl.v at c1 c2 hra hrb
          simp only at c0 c1 c2 hra hrb HS
          obtain ⟨X, hX⟩ : ∃ X, X = wr.alloc (.cells #[.string xn, .slice ra1 ra2 ra3, .slice rb1 rb2 rb3] 73) := ⟨_, rfl⟩
          obtain ⟨b6, hb6⟩ : ∃ b6, b6 = wr.heap.size := ⟨_, rfl⟩
          have AX : Below wr.heap.size wr X := by rw [hX]; exact (Below.refl _ wr).alloc (Nat.le_refl _) _
          have TX : Hid (OO w w.heap.size (w.heap.size + 1) bo ⟨op, on, ols, opr, odl, ops, ov⟩ (.slice la nl lc) (.slice (some ⟨b, off, none⟩) np pc) (.slice a c d) (.slice a' c' d') ols rs (ops.take k) X) := Lib.hid (R.out.2.below AX)
          have TD := Lib.hid TX.out.drew
          have RW : Hid (Row kAm X.drew (.slice ra1 ra2 ra3) xr ∧ Row kAm X.drew (.slice rb1 rb2 rb3) xl ∧ xr.length * 24 ≤ 140737488355328 ∧ xl.length * 24 ≤ 140737488355328) := Lib.hid ⟨(hra.below AX).below ⟨rfl, rfl, rfl, Nat.le_refl _, fun _ _ => rfl⟩, (hrb.below AX).below ⟨rfl, rfl, rfl, Nat.le_refl _, fun _ _ => rfl⟩, HS.1, HS.2⟩
          have x0 : X.cell? ⟨b6, 0, none⟩ = some (.string xn) := by rw [hX, hb6, World.cell?_alloc_new]; rfl
          have x1 : X.cell? ⟨b6, 1, none⟩ = some (.slice ra1 ra2 ra3) := by rw [hX, hb6, World.cell?_alloc_new]; rfl
          have x2 : X.cell? ⟨b6, 2, none⟩ = some (.slice rb1 rb2 rb3) := by rw [hX, hb6, World.cell?_alloc_new]; rfl
          have d0 : X.drew.cell? ⟨b6, 0, none⟩ = some (.string xn) := x0
          have d1 : X.drew.cell? ⟨b6, 1, none⟩ = some (.slice ra1 ra2 ra3) := x1
          have d2 : X.drew.cell? ⟨b6, 2, none⟩ = some (.slice rb1 rb2 rb3) := x2
          have e5 : X.cell? ⟨bo, 5, none⟩ = some (.slice a' c' d') := by rw [cell_of_row X _ 5 _ _ _ TX.out.o]; rfl
          have g5 : X.drew.cell? ⟨bo, 5, none⟩ = some (.slice a' c' d') := e5
          have NE : Hid ((Value.slice a' c' d').ownBlock ≠ some b6 ∧ b6 ≠ bo) := Lib.hid ⟨fun e => by have := (R.out.2.p.lt _ e).2; omega, by have := lt_of_some R.out.2.o; omega⟩
          have hX' := hX.symm
          have hb6' := hb6.symm
          clear hX hb6 AX hra hrb HS
          go_wp2_with fail
          refine wp_region_noPanic ?_
          refine region_two (fun W' => W'.cell? ⟨b6, 0, none⟩ = some (.string xn) ∧ W'.cell? ⟨b6, 1, none⟩ = some (.slice ra1 ra2 ra3) ∧ W'.cell? ⟨b6, 2, none⟩ = some (.slice rb1 rb2 rb3)) (fun W' => W'.cell? ⟨bo, 5, none⟩ = some (.slice a' c' d')) 12 (by kernel_rfl) ?_
          refine two_take0 (i := 0) (oi := { dst := some 39, op := Op.fieldAddr 25 (Operand.tmp 3) 5, type := 0, pos := "law.go:29", after := #[], guard := none }) (v := ?v0) rfl (by kernel_rfl) (by kernel_rfl) (by kernel_rfl) rfl (fun _ _ _ h => h) (Or.inl ⟨by rfl, ?y0⟩) ⟨⟨d0, d1, d2⟩, fun _ => g5⟩ ?r0
          case y0 => (intro wS hS; obtain ⟨i0, i1, i2⟩ := hS; go_simp; (try with_reducible rfl))
          try simp only [Act.put, List.setIfInBounds_toArray, List.set_cons_zero, List.set_cons_succ]
          refine two_take1 (i := 1) (oi := { dst := some 40, op := Op.load 23 (Operand.tmp 39), type := 23, pos := "law.go:29", after := #[{ on := 0, ground := Ground.data }], guard := none }) (v := ?v1) { dst := some 51, op := Op.call { callee := Callee.builtin Builtin.append, args := #[Operand.tmp 40, Operand.tmp 50], argTypes := #[23, 23] }, type := 23, pos := "law.go:29", after := #[{ on := 1, ground := Ground.data }, { on := 11, ground := Ground.data }, { on := 9, ground := Ground.chain }], guard := none } rfl (by kernel_rfl) (by kernel_rfl) (by kernel_rfl) rfl rfl (by kernel_rfl) (by kernel_rfl) (fun _ _ _ h => h) (Or.inl ⟨by rfl, ?y1⟩) ⟨⟨d0, d1, d2⟩, fun _ => g5⟩ ?r1
          case y1 => (intro wS hS; go_simp; (try with_reducible rfl))
          try simp only [Act.put, List.setIfInBounds_toArray, List.set_cons_zero, List.set_cons_succ]
          refine two_take0 (i := 2) (oi := { dst := some 41, op := Op.fieldAddr 73 (Operand.tmp 6) 0, type := 0, pos := "law.go:29", after := #[], guard := none }) (v := ?v2) rfl (by kernel_rfl) (by kernel_rfl) (by kernel_rfl) rfl (fun _ _ _ h => h) (Or.inl ⟨by rfl, ?y2⟩) ⟨⟨d0, d1, d2⟩, fun _ => g5⟩ ?r2
          case y2 => (intro wS hS; obtain ⟨i0, i1, i2⟩ := hS; go_simp; (try with_reducible rfl))
          try simp only [Act.put, List.setIfInBounds_toArray, List.set_cons_zero, List.set_cons_succ]
          refine two_take0 (i := 3) (oi := { dst := some 42, op := Op.load 9 (Operand.tmp 41), type := 9, pos := "law.go:29", after := #[{ on := 2, ground := Ground.data }], guard := none }) (v := ?v3) rfl (by kernel_rfl) (by kernel_rfl) (by kernel_rfl) rfl (fun _ _ _ h => h) (Or.inl ⟨by rfl, ?y3⟩) ⟨⟨d0, d1, d2⟩, fun _ => g5⟩ ?r3
          case y3 => (intro wS hS; obtain ⟨i0, i1, i2⟩ := hS; go_simp; (try with_reducible rfl))
          try simp only [Act.put, List.setIfInBounds_toArray, List.set_cons_zero, List.set_cons_succ]
          refine two_take0 (i := 4) (oi := { dst := some 43, op := Op.fieldAddr 73 (Operand.tmp 6) 1, type := 0, pos := "law.go:29", after := #[], guard := none }) (v := ?v4) rfl (by kernel_rfl) (by kernel_rfl) (by kernel_rfl) rfl (fun _ _ _ h => h) (Or.inl ⟨by rfl, ?y4⟩) ⟨⟨d0, d1, d2⟩, fun _ => g5⟩ ?r4
          case y4 => (intro wS hS; obtain ⟨i0, i1, i2⟩ := hS; go_simp; (try with_reducible rfl))
          try simp only [Act.put, List.setIfInBounds_toArray, List.set_cons_zero, List.set_cons_succ]
          refine two_take0 (i := 5) (oi := { dst := some 44, op := Op.load 28 (Operand.tmp 43), type := 28, pos := "law.go:29", after := #[{ on := 4, ground := Ground.data }], guard := none }) (v := ?v5) rfl (by kernel_rfl) (by kernel_rfl) (by kernel_rfl) rfl (fun _ _ _ h => h) (Or.inl ⟨by rfl, ?y5⟩) ⟨⟨d0, d1, d2⟩, fun _ => g5⟩ ?r5
          case y5 => (intro wS hS; obtain ⟨i0, i1, i2⟩ := hS; go_simp; (try with_reducible rfl))
          try simp only [Act.put, List.setIfInBounds_toArray, List.set_cons_zero, List.set_cons_succ]
          refine two_take0 (i := 7) (oi := { dst := some 46, op := Op.fieldAddr 73 (Operand.tmp 6) 2, type := 0, pos := "law.go:29", after := #[], guard := none }) (v := ?v7) rfl (by kernel_rfl) (by kernel_rfl) (by kernel_rfl) rfl (fun _ _ _ h => h) (Or.inl ⟨by rfl, ?y7⟩) ⟨⟨d0, d1, d2⟩, fun _ => g5⟩ ?r7
          case y7 => (intro wS hS; obtain ⟨i0, i1, i2⟩ := hS; go_simp; (try with_reducible rfl))
          try simp only [Act.put, List.setIfInBounds_toArray, List.set_cons_zero, List.set_cons_succ]
          refine two_take0 (i := 8) (oi := { dst := some 47, op := Op.load 28 (Operand.tmp 46), type := 28, pos := "law.go:29", after := #[{ on := 7, ground := Ground.data }], guard := none }) (v := ?v8) rfl (by kernel_rfl) (by kernel_rfl) (by kernel_rfl) rfl (fun _ _ _ h => h) (Or.inl ⟨by rfl, ?y8⟩) ⟨⟨d0, d1, d2⟩, fun _ => g5⟩ ?r8
          case y8 => (intro wS hS; obtain ⟨i0, i1, i2⟩ := hS; go_simp; (try with_reducible rfl))
          try simp only [Act.put, List.setIfInBounds_toArray, List.set_cons_zero, List.set_cons_succ]
          refine two_one (j := 6) (o := { dst := some 45, op := Op.call { callee := Callee.value (Operand.func 30), args := #[Operand.tmp 44], argTypes := #[28] }, type := 28, pos := "law.go:29", after := #[{ on := 5, ground := Ground.data }], guard := none }) (by kernel_rfl) rfl (fun K hK => ?_)
          refine step_own rfl (.tmp 44) _ rfl (.slice ra1 ra2 ra3) xr X.drew rfl RW.out.1 RW.out.2.2.1 ?_
          intro a4 n4 c4 w1 H1
          have S1 := Lib.hid (TD.out.below H1.out.2)
          have q0 := (H1.out.2.cell (block_lt_of_cell d0)).trans d0
          have q1 := (H1.out.2.cell (block_lt_of_cell d1)).trans d1
          have q2 := (H1.out.2.cell (block_lt_of_cell d2)).trans d2
          have q5 := (H1.out.2.cell (block_lt_of_cell g5)).trans g5
          have RX := Lib.hid (RW.out.2.1.below H1.out.2)
          refine hK.out _ _ ⟨⟨q0, q1, q2⟩, fun _ => q5⟩ ?_
          clear hK K
          try simp only [Act.put, List.setIfInBounds_toArray, List.set_cons_zero, List.set_cons_succ]
          refine two_one (j := 9) (o := { dst := some 48, op := Op.call { callee := Callee.value (Operand.func 30), args := #[Operand.tmp 47], argTypes := #[28] }, type := 28, pos := "law.go:29", after := #[{ on := 8, ground := Ground.data }, { on := 6, ground := Ground.chain }], guard := none }) (by kernel_rfl) rfl (fun K hK => ?_)
          refine step_own rfl (.tmp 47) _ rfl (.slice rb1 rb2 rb3) xl w1 rfl RX.out RW.out.2.2.2 ?_
          intro a5 n5 c5 w2 H2
          have S2 := Lib.hid (S1.out.below H2.out.2)
          have t0 := (H2.out.2.cell (block_lt_of_cell q0)).trans q0
          have t1 := (H2.out.2.cell (block_lt_of_cell q1)).trans q1
          have t2 := (H2.out.2.cell (block_lt_of_cell q2)).trans q2
          have t5 := (H2.out.2.cell (block_lt_of_cell q5)).trans q5
          have O3 : Hid (OwnR kAm w.heap.size w2 (.slice a5 n5 c5) xl) := Lib.hid (H2.out.1.mono S1.out.be.size)
          have O4 : Hid (OwnR kAm w.heap.size w2 (.slice a4 n4 c4) xr) := Lib.hid ((H1.out.1.mono TD.out.be.size).below H2.out.2)
          have mA : ∀ ob, (w2.alloc ob).cell? ⟨bo, 5, none⟩ = some (.slice a' c' d') := (fun ob => by rw [((Below.refl w2.heap.size w2).alloc (Nat.le_refl _) ob).cell (block_lt_of_cell t5)]; exact t5)
          have AL : ∀ ob, (w2.alloc ob).cell? ⟨b6, 0, none⟩ = some (.string xn) ∧ (w2.alloc ob).cell? ⟨b6, 1, none⟩ = some (.slice ra1 ra2 ra3) ∧ (w2.alloc ob).cell? ⟨b6, 2, none⟩ = some (.slice rb1 rb2 rb3) := (fun ob => ⟨by rw [((Below.refl w2.heap.size w2).alloc (Nat.le_refl _) ob).cell (block_lt_of_cell t0)]; exact t0, by rw [((Below.refl w2.heap.size w2).alloc (Nat.le_refl _) ob).cell (block_lt_of_cell t1)]; exact t1, by rw [((Below.refl w2.heap.size w2).alloc (Nat.le_refl _) ob).cell (block_lt_of_cell t2)]; exact t2⟩)
          have LB : Hid (w.heap.size ≤ w2.heap.size) := Lib.hid S2.out.be.size
          refine hK.out _ _ ⟨⟨t0, t1, t2⟩, fun _ => t5⟩ ?_
          clear hK K
          try simp only [Act.put, List.setIfInBounds_toArray, List.set_cons_zero, List.set_cons_succ]
          refine two_take0 (i := 10) (oi := { dst := some 49, op := Op.build 73 #[(0, Operand.tmp 42), (1, Operand.tmp 45), (2, Operand.tmp 48)], type := 73, pos := "law.go:29", after := #[{ on := 3, ground := Ground.data }, { on := 6, ground := Ground.data }, { on := 9, ground := Ground.data }], guard := none }) (v := ?v10) rfl (by kernel_rfl) (by kernel_rfl) (by kernel_rfl) rfl (fun _ _ _ h => h) (Or.inl ⟨by rfl, ?y10⟩) ⟨⟨t0, t1, t2⟩, fun _ => t5⟩ ?r10
          case y10 => (intro wS hS; obtain ⟨i0, i1, i2⟩ := hS; go_simp; (try with_reducible rfl))
          try simp only [Act.put, List.setIfInBounds_toArray, List.set_cons_zero, List.set_cons_succ]
          refine two_one (j := 11) (o := { dst := some 50, op := Op.buildSlice 23 1 #[(0, Operand.tmp 49)], type := 23, pos := "law.go:29", after := #[{ on := 10, ground := Ground.data }], guard := none }) (by kernel_rfl) rfl (fun K hK => ?_)
          go_simp
          refine hK.out _ _ ⟨AL _, fun _ => mA _⟩ ?_
          clear hK K
          try simp only [Act.put, List.setIfInBounds_toArray, List.set_cons_zero, List.set_cons_succ]
          refine two_one (j := 12) (o := { dst := some 51, op := Op.call { callee := Callee.builtin Builtin.append, args := #[Operand.tmp 40, Operand.tmp 50], argTypes := #[23, 23] }, type := 23, pos := "law.go:29", after := #[{ on := 1, ground := Ground.data }, { on := 11, ground := Ground.data }, { on := 9, ground := Ground.chain }], guard := none }) (by kernel_rfl) rfl (fun K hK => ?_)
          refine step_rowB okPt rfl (.tmp 40) (.tmp 50) rfl (B := w.heap.size) (w0 := w2) (v := .slice a' c' d') (es := rs) rfl S2.out.p LB.out ⟨xn, ⟨a4, n4, c4⟩, ⟨a5, n5, c5⟩⟩ rfl rfl LN.out ?_
          intro a6 n6 c6 w7 H7
          have GN := Lib.hid (S2.out.rows (grown_kept H7.out.2.1) (own_tb S2.out.p _ (by decide))).2.2
          have f2 : w7.frozen? ⟨bo, 5, none⟩ = false := frozen_of_row _ _ _ _ _ GN.out
          have z2 : w7.cell? ⟨bo, 5, none⟩ = some (.slice a' c' d') := (by rw [cell_of_row w7 _ 5 _ _ _ GN.out]; rfl)
          have S7 : w7.cell? ⟨b6, 0, none⟩ = some (.string xn) ∧ w7.cell? ⟨b6, 1, none⟩ = some (.slice ra1 ra2 ra3) ∧ w7.cell? ⟨b6, 2, none⟩ = some (.slice rb1 rb2 rb3) := ⟨(grown_cell H7.out.2.1 NE.out.1 (block_lt_of_cell t0)).trans t0, (grown_cell H7.out.2.1 NE.out.1 (block_lt_of_cell t1)).trans t1, (grown_cell H7.out.2.1 NE.out.1 (block_lt_of_cell t2)).trans t2⟩
          have SS : ∀ y, (w7.setCell ⟨bo, 5, none⟩ y).cell? ⟨b6, 0, none⟩ = some (.string xn) ∧ (w7.setCell ⟨bo, 5, none⟩ y).cell? ⟨b6, 1, none⟩ = some (.slice ra1 ra2 ra3) ∧ (w7.setCell ⟨bo, 5, none⟩ y).cell? ⟨b6, 2, none⟩ = some (.slice rb1 rb2 rb3) := (fun y => ⟨(set_cell NE.out.2 (block_lt_of_cell S7.1)).trans S7.1, (set_cell NE.out.2 (block_lt_of_cell S7.2.1)).trans S7.2.1, (set_cell NE.out.2 (block_lt_of_cell S7.2.2)).trans S7.2.2⟩)
          refine hK.out _ _ ⟨S7, fun q => absurd (show (true : Bool) = false from q) (by decide)⟩ ?_
          clear hK K
          try simp only [Act.put, List.setIfInBounds_toArray, List.set_cons_zero, List.set_cons_succ]
          refine two_take0 (i := 13) (oi := { dst := some 52, op := Op.fieldAddr 25 (Operand.tmp 3) 5, type := 0, pos := "law.go:29", after := #[{ on := 0, ground := Ground.phase }, { on := 1, ground := Ground.phase }, { on := 2, ground := Ground.phase }, { on := 3, ground := Ground.phase }, { on := 4, ground := Ground.phase }, { on := 5, ground := Ground.phase }, { on := 6, ground := Ground.phase }, { on := 7, ground := Ground.phase }, { on := 8, ground := Ground.phase }, { on := 9, ground := Ground.phase }, { on := 10, ground := Ground.phase }, { on := 11, ground := Ground.phase }, { on := 12, ground := Ground.phase }], guard := none }) (v := ?v13) rfl (by kernel_rfl) (by kernel_rfl) (by kernel_rfl) rfl (fun _ _ _ h => h) (Or.inl ⟨by rfl, ?y13⟩) ⟨S7, fun q => absurd (show (true : Bool) = false from q) (by decide)⟩ ?r13
          case y13 => (intro wS hS; obtain ⟨i0, i1, i2⟩ := hS; go_simp; (try with_reducible rfl))
          try simp only [Act.put, List.setIfInBounds_toArray, List.set_cons_zero, List.set_cons_succ]
          refine two_one (j := 14) (o := { dst := none, op := Op.store 23 (Operand.tmp 52) (Operand.tmp 51), type := 0, pos := "law.go:29", after := #[{ on := 13, ground := Ground.data }, { on := 12, ground := Ground.data }, { on := 12, ground := Ground.chain }, { on := 0, ground := Ground.phase }, { on := 1, ground := Ground.phase }, { on := 2, ground := Ground.phase }, { on := 3, ground := Ground.phase }, { on := 4, ground := Ground.phase }, { on := 5, ground := Ground.phase }, { on := 6, ground := Ground.phase }, { on := 7, ground := Ground.phase }, { on := 8, ground := Ground.phase }, { on := 9, ground := Ground.phase }, { on := 10, ground := Ground.phase }, { on := 11, ground := Ground.phase }, { on := 12, ground := Ground.phase }], guard := none }) (by kernel_rfl) rfl (fun K hK => ?_)
          go_simp
          refine hK.out _ _ ⟨SS _, fun q => absurd (show (true : Bool) = false from q) (by decide)⟩ ?_
          clear hK K
          try simp only [Act.put, List.setIfInBounds_toArray, List.set_cons_zero, List.set_cons_succ]
          refine two_done (by kernel_rfl) ?_ _
          refine NoPanic.normal ?_
          · skip
            have S8 := Lib.hid (S2.out.part (y := ⟨xn, xr, xl⟩) H7.out.1 H7.out.2.1 rfl O4.out O3.out)
            rw [← ST.out] at S8
            clear f2 z2 mA t0 t1 t2 t5 q0 q1 q2 q5 x0 x1 x2 d0 d1 d2 e5 g5 k5 AL S7 SS
            obtain ⟨W4, hW4⟩ : ∃ W4, w7.setCell ⟨bo, 5, none⟩ (.slice a6 n6 c6) = W4 := ⟨_, rfl⟩
            rw [hW4] at S8
            rw [hW4]
            clear hW4
            go_wp2_with fail
            go_roundg (np - (k + 1))
            case measure => have := R.out.1; omega
            case rel => exact ⟨k + 1, _, a6, n6, c6, by omega, rfl, by go_num, S8.out⟩
        · have T6 : Hid (OO w w.heap.size (w.heap.size + 1) bo ⟨op, on, ols, opr, odl, ops, ov⟩ (.slice la nl lc) (.slice pa np pc) (.slice a c d) (.slice a' c' d') ols rs ops wr) := Lib.hid (by
            have := R.out.2; rw [List.take_of_length_le (by rw [← HN.out.2]; omega)] at this; exact this)
          have cc : ∀ j y, (#[.string op, .string on, .slice a c d, .int .i64 opr, .int .i64 odl, .slice a' c' d', .int .i64 ov] : Array Value)[j]? = some y → wr.cell? ⟨bo, j, none⟩ = some y := fun j y hy => by rw [cell_of_row wr _ j _ _ _ T6.out.o]; exact hy
          have e0 := cc 0 _ rfl
          have e1 := cc 1 _ rfl
          have e2 := cc 2 _ rfl
          have e3 := cc 3 _ rfl
          have e4 := cc 4 _ rfl
          have e5 := cc 5 _ rfl
          have e6 := cc 6 _ rfl
          have ON : Hid ((#[.string op, .string on, .slice a c d, .int .i64 opr, .int .i64 odl, .slice a' c' d', .int .i64 ov] : Array Value).all (·.oneCell') = true) := Lib.hid (by simp [Value.oneCell'])
          clear cc
          go_wp2_with (refine wpList_store_row rfl 25 (.tmp 2) (.tmp 53) rfl (w.heap.size + 1) #[.string op, .string on, .slice a c d, .int .i64 opr, .int .i64 odl, .slice a' c' d', .int .i64 ov] rfl rfl 25 #[.string ⟨#[]⟩, .string ⟨#[]⟩, .slice none 0 0, .int .i64 0, .int .i64 0, .slice none 0 0, .int .i64 0] T6.out.z size_obj rfl ON.out ?_)
          have D := T6.out.done #[.string op, .string on, .slice a c d, .int .i64 opr, .int .i64 odl, .slice a' c' d', .int .i64 ov]
          refine bodyPost_ret (results_cell_row rfl _ _ (w.heap.size + 1) 25 #[.string op, .string on, .slice a c d, .int .i64 opr, .int .i64 odl, .slice a' c' d', .int .i64 ov] (0, 0) _ rfl (setRow_heap _ _ _ _ _ _ T6.out.z) Tryz.underlying25 rfl size_obj) rfl ?_
          exact ⟨.slice a c d, .slice a' c' d', rfl, D.1, D.2⟩
end Go.Proofs.YthomdgnmoapbkaaGreatDoor
end S3
