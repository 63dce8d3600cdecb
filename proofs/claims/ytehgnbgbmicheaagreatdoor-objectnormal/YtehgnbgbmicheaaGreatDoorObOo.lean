/-
  The law's copies: ownObject.
-/
import Derived.Test.YtehgnbgbmicheaaGreatDoorObOa
import Derived.RegionTactic
import Derived.Deep.RegionLaw
namespace Go.Proofs.YtehgnbgbmicheaaGreatDoor
open Go.RowKit
structure OO (w : World) (bp bz bo : Nat) (x : Ob) (u1 u2 vl vp : Value) (ls : List (ByteArray × ByteArray)) (rs : List Pr) (ps : List Pt) (W : World) : Prop where
  a : W.heap[bp]? = some (.cells #[.string x.p, .string x.n, u1, .int .i64 x.pr, .int .i64 x.dl, u2, .int .i64 x.ver] 25 (0, 0))
  z : W.heap[bz]? = some (.cells #[.string ⟨#[]⟩, .string ⟨#[]⟩, .slice none 0 0, .int .i64 0, .int .i64 0, .slice none 0 0, .int .i64 0] 25 (0, 0))
  o : W.heap[bo]? = some (.cells #[.string x.p, .string x.n, vl, .int .i64 x.pr, .int .i64 x.dl, vp, .int .i64 x.ver] 25 (0, 0))
  l : OwnR kLb w.heap.size W vl ls
  p : OwnR kPt w.heap.size W vp rs
  q : Nst w.heap.size W rs ps
  be : Below w.heap.size w W
  bs : w.heap.size ≤ bp ∧ w.heap.size ≤ bz ∧ w.heap.size ≤ bo ∧ bp ≠ bo ∧ bz ≠ bo
variable {w W W' : World} {bp bz bo : Nat} {x : Ob} {u1 u2 vl vp : Value} {ls : List (ByteArray × ByteArray)} {rs : List Pr} {ps : List Pt}
theorem OO.below (h : OO w bp bz bo x u1 u2 vl vp ls rs ps W) (hb : Below W.heap.size W W') : OO w bp bz bo x u1 u2 vl vp ls rs ps W' :=
  ⟨by rw [hb.block _ (lt_of_some h.a)]; exact h.a, by rw [hb.block _ (lt_of_some h.z)]; exact h.z, by rw [hb.block _ (lt_of_some h.o)]; exact h.o, h.l.below hb, h.p.below hb, ⟨h.q.1, fun k hk => ⟨(h.q.2 k hk).1, (h.q.2 k hk).2.1.below hb, (h.q.2 k hk).2.2.below hb⟩⟩, h.be.trans (hb.mono h.be.size), h.bs⟩
theorem OO.drew (h : OO w bp bz bo x u1 u2 vl vp ls rs ps W) : OO w bp bz bo x u1 u2 vl vp ls rs ps W.drew := h.below ⟨rfl, rfl, rfl, Nat.le_refl _, fun _ _ => rfl⟩
theorem OO.rows (h : OO w bp bz bo x u1 u2 vl vp ls rs ps W) {F : Nat → Prop} (hk : Kept F W W') (hF : ∀ k cs m, F k → W.heap[k]? ≠ some (.cells cs 25 m)) : W'.heap[bp]? = some (.cells #[.string x.p, .string x.n, u1, .int .i64 x.pr, .int .i64 x.dl, u2, .int .i64 x.ver] 25 (0, 0)) ∧ W'.heap[bz]? = some (.cells #[.string ⟨#[]⟩, .string ⟨#[]⟩, .slice none 0 0, .int .i64 0, .int .i64 0, .slice none 0 0, .int .i64 0] 25 (0, 0)) ∧ W'.heap[bo]? = some (.cells #[.string x.p, .string x.n, vl, .int .i64 x.pr, .int .i64 x.dl, vp, .int .i64 x.ver] 25 (0, 0)) :=
  ⟨by rw [hk.block _ (lt_of_some h.a) (fun e => hF _ _ _ e h.a)]; exact h.a, by rw [hk.block _ (lt_of_some h.z) (fun e => hF _ _ _ e h.z)]; exact h.z, by rw [hk.block _ (lt_of_some h.o) (fun e => hF _ _ _ e h.o)]; exact h.o⟩
theorem own_tb {α : Type} {K : Kd α} {B : Nat} {W : World} {v : Value} {l : List α} (h : OwnR K B W v l) (t : TypeId) (ht : t ≠ K.t) : ∀ k cs m, some k = v.ownBlock → W.heap[k]? ≠ some (.cells cs t m) := fun k cs m e q => by
  obtain ⟨cs', m', h'⟩ := h.ty k e.symm
  rw [h'] at q; simp only [Option.some.injEq, Obj.cells.injEq] at q; exact ht q.2.1.symm
theorem row_tb {W : World} {b : Nat} {c : Array Value} (h : W.heap[b]? = some (.cells c 25 (0, 0))) (t : TypeId) (ht : t ≠ 25) : ∀ k cs m, k = b → W.heap[k]? ≠ some (.cells cs t m) := fun k cs m e q => by
  rw [e, h] at q; simp only [Option.some.injEq, Obj.cells.injEq] at q; exact ht q.2.1.symm
theorem OO.label (h : OO w bp bz bo x u1 u2 vl vp ls rs ps W) {v' : Value} {y : ByteArray × ByteArray} (ho : OwnR kLb w.heap.size W' v' (ls ++ [y])) (hg : W.grownBy W' vl.ownBlock) : OO w bp bz bo x u1 u2 v' vp (ls ++ [y]) rs ps (W'.setCell ⟨bo, 2, none⟩ v') := by
  have hk := grown_kept hg
  obtain ⟨ga, gz, go⟩ := h.rows hk (own_tb h.l _ (by decide))
  have k2 : Kept (fun k => k = bo) W' (W'.setCell ⟨bo, 2, none⟩ v') := kept_set _ _ _ rfl
  have hb := h.bs
  have bW : Below w.heap.size w W' := h.be.trans (grown_belowR hg h.l h.be.size)
  exact ⟨by rw [k2.block bp (lt_of_some ga) (by omega)]; exact ga, by rw [k2.block bz (lt_of_some gz) (by omega)]; exact gz, by rw [Go.heap_setCell_same W' bo 2 _ _ _ go]; rfl, ho.kept_ty k2 (row_tb go _ (by decide)), (h.p.kept_ty hk (own_tb h.l _ (by decide))).kept_ty k2 (row_tb go _ (by decide)), (h.q.kept hk (own_tb h.l _ (by decide))).kept k2 (row_tb go _ (by decide)), bW.trans (k2.below bW.size (fun x hx => by omega)), h.bs⟩
theorem OO.part (h : OO w bp bz bo x u1 u2 vl vp ls rs ps W) {v' : Value} {r : Pr} {y : Pt} (ho : OwnR kPt w.heap.size W' v' (rs ++ [r])) (hg : W.grownBy W' vp.ownBlock) (h1 : r.n = y.n) (h2 : OwnR kAm w.heap.size W r.r.v y.r) (h3 : OwnR kAm w.heap.size W r.l.v y.l) : OO w bp bz bo x u1 u2 vl v' ls (rs ++ [r]) (ps ++ [y]) (W'.setCell ⟨bo, 5, none⟩ v') := by
  have hk := grown_kept hg
  obtain ⟨ga, gz, go⟩ := h.rows hk (own_tb h.p _ (by decide))
  have k2 : Kept (fun k => k = bo) W' (W'.setCell ⟨bo, 5, none⟩ v') := kept_set _ _ _ rfl
  have hb := h.bs
  have bW : Below w.heap.size w W' := h.be.trans (grown_belowR hg h.p h.be.size)
  exact ⟨by rw [k2.block bp (lt_of_some ga) (by omega)]; exact ga, by rw [k2.block bz (lt_of_some gz) (by omega)]; exact gz, by rw [Go.heap_setCell_same W' bo 5 _ _ _ go]; rfl, (h.l.kept_ty hk (own_tb h.p _ (by decide))).kept_ty k2 (row_tb go _ (by decide)), ho.kept_ty k2 (row_tb go _ (by decide)), ((h.q.add h1 h2 h3).kept hk (own_tb h.p _ (by decide))).kept k2 (row_tb go _ (by decide)), bW.trans (k2.below bW.size (fun x hx => by omega)), h.bs⟩
theorem OO.done (h : OO w bp bz bo x u1 u2 vl vp ls rs ps W) (cs : Array Value) : (∃ r, OwnR kLb w.heap.size (W.setRow bz cs) vl ls ∧ OwnR kPt w.heap.size (W.setRow bz cs) vp r ∧ Nst w.heap.size (W.setRow bz cs) r ps) ∧ Below w.heap.size w (W.setRow bz cs) := by
  have hk := kept_setRow W bz cs
  have hb := h.bs
  exact ⟨⟨rs, h.l.kept_ty hk (row_tb h.z _ (by decide)), h.p.kept_ty hk (row_tb h.z _ (by decide)), h.q.kept hk (row_tb h.z _ (by decide))⟩, h.be.trans (hk.below h.be.size (fun x hx => by omega))⟩
theorem step_own {ops : Array Oper} {o : Oper} {a : Act} {K : Act → World → Prop} {Q : Exit → Act → World → Prop} {E : Prop} (hgd : o.guard = none) (y : Operand) (ts : Array TypeId)
    (ho : o.op = .call { callee := .value (.func 19), args := #[y], argTypes := ts }) (v : Value) (l : List Am) (W : World) (hy : a.eval y = v) (hr : Row kAm W v l) (hl : l.length * 24 ≤ 140737488355328)
    (h : ∀ a1 n1 c1 w1, Hid (OwnR kAm W.heap.size w1 (.slice a1 n1 c1) l ∧ Below W.heap.size W w1) → K (a.put o.dst (.slice a1 n1 c1)) w1) :
    if Region.wanted o (yielded ops a.tmps) = true then Oper.wp Tryz.prog o a W K Q else E := by
  refine step_call (P := fun V w1 => ∃ a1 n1 c1, V = .slice a1 n1 c1 ∧ OwnR kAm W.heap.size w1 (.slice a1 n1 c1) l ∧ Below W.heap.size W w1) (enters _ _ Tryz.func19 (by kernel_rfl) (by kernel_rfl)) hgd y ts ho hy ((ownAmounts_any v l W hr hl).mono fun _ _ q => ?_) ?_
  · obtain ⟨a1, n1, c1, rfl, q2⟩ := q
    exact ⟨_, rfl, a1, n1, c1, rfl, q2⟩
  · rintro V w1 hp
    obtain ⟨a1, n1, c1, rfl, q2⟩ := hp.out
    exact h a1 n1 c1 w1 (Lib.hid q2)
end Go.Proofs.YtehgnbgbmicheaaGreatDoor
