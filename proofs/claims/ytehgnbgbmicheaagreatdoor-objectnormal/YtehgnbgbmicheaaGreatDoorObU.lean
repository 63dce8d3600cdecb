/-
  takeObject.
-/
import Derived.Test.YtehgnbgbmicheaaGreatDoorObT
import Derived.RegionTactic
import Derived.Deep.RegionLaw
import Derived.Laws.ResultCell
import Derived.Laws.Rows
import Derived.Laws.Tables
namespace Go.Proofs.YtehgnbgbmicheaaGreatDoor
open Go.RowKit
/-- The parts' lists lie where the parts say. -/
def Nst (B : Nat) (W : World) (rs : List Pr) (ps : List Pt) : Prop := rs.length = ps.length ∧ ∀ k, k < ps.length → (rs.getD k kPt.z).n = (ps.getD k ⟨⟨#[]⟩, [], []⟩).n ∧ OwnR kAm B W (rs.getD k kPt.z).r.v (ps.getD k ⟨⟨#[]⟩, [], []⟩).r ∧ OwnR kAm B W (rs.getD k kPt.z).l.v (ps.getD k ⟨⟨#[]⟩, [], []⟩).l
theorem Nst.kept {B : Nat} {F : Nat → Prop} {W W' : World} {rs : List Pr} {ps : List Pt} (h : Nst B W rs ps) (hk : Kept F W W') (hF : ∀ k cs m, F k → W.heap[k]? ≠ some (.cells cs kAm.t m)) : Nst B W' rs ps :=
  ⟨h.1, fun k hk' => ⟨(h.2 k hk').1, (h.2 k hk').2.1.kept_ty hk hF, (h.2 k hk').2.2.kept_ty hk hF⟩⟩
theorem Nst.add {B : Nat} {W : World} {rs : List Pr} {ps : List Pt} (h : Nst B W rs ps) {r : Pr} {x : Pt} (h1 : r.n = x.n) (h2 : OwnR kAm B W r.r.v x.r) (h3 : OwnR kAm B W r.l.v x.l) : Nst B W (rs ++ [r]) (ps ++ [x]) := by
  refine ⟨by rw [List.length_append, List.length_append, h.1]; rfl, fun k hk => ?_⟩
  rw [List.length_append, List.length_singleton] at hk
  by_cases q : k < ps.length
  · have e1 : (rs ++ [r]).getD k kPt.z = rs.getD k kPt.z := by
      rw [List.getD_eq_getElem?_getD, List.getD_eq_getElem?_getD, List.getElem?_append_left (by rw [h.1]; exact q)]
    have e2 : (ps ++ [x]).getD k ⟨⟨#[]⟩, [], []⟩ = ps.getD k ⟨⟨#[]⟩, [], []⟩ := by
      rw [List.getD_eq_getElem?_getD, List.getD_eq_getElem?_getD, List.getElem?_append_left q]
    rw [e1, e2]; exact h.2 k q
  · obtain rfl : k = ps.length := by omega
    have e1 : (rs ++ [r]).getD ps.length kPt.z = r := by
      rw [List.getD_eq_getElem?_getD, List.getElem?_append_right (by rw [h.1]; exact Nat.le_refl _), h.1]; simp
    have e2 : (ps ++ [x]).getD ps.length ⟨⟨#[]⟩, [], []⟩ = x := by
      rw [List.getD_eq_getElem?_getD, List.getElem?_append_right (Nat.le_refl _)]; simp
    rw [e1, e2]; exact ⟨h1, h2, h3⟩
/-- An object that is being read. -/
structure TK (w : World) (g bz bo : Nat) (s : RS) (x : Ob) (vl vp : Value) (rs : List Pr) (W : World) : Prop where
  r : RAt W g s
  z : W.heap[bz]? = some (.cells #[.string ⟨#[]⟩, .string ⟨#[]⟩, .slice none 0 0, .int .i64 0, .int .i64 0, .slice none 0 0, .int .i64 0] 25 (0, 0))
  o : W.heap[bo]? = some (.cells #[.string x.p, .string x.n, vl, .int .i64 x.pr, .int .i64 x.dl, vp, .int .i64 x.ver] 25 (0, 0))
  l : OwnR kLb w.heap.size W vl x.ls
  p : OwnR kPt w.heap.size W vp rs
  q : Nst w.heap.size W rs x.ps
  ke : Kept (fun k => k = g) w W
  lt : g < w.heap.size
  bs : w.heap.size ≤ bz ∧ w.heap.size ≤ bo ∧ bz ≠ bo
variable {w W W' : World} {g bz bo : Nat} {s s' : RS} {x : Ob} {vl vp : Value} {rs : List Pr}
theorem TK.read (h : TK w g bz bo s x vl vp rs W) (hr : Read g s' W W') : TK w g bz bo s' x vl vp rs W' := by
  have hlt := h.lt
  have hb := h.bs
  have ng : ∀ {α : Type} {K : Kd α} {v : Value} {l : List α}, OwnR K w.heap.size W v l → OwnR K w.heap.size W' v l := fun ho => ho.kept hr.2 (fun k hk e => by have := (ho.lt k hk).1; omega)
  exact ⟨hr.1, by rw [hr.2.block bz (lt_of_some h.z) (by omega)]; exact h.z, by rw [hr.2.block bo (lt_of_some h.o) (by omega)]; exact h.o, ng h.l, ng h.p, ⟨h.q.1, fun k hk => ⟨(h.q.2 k hk).1, ng (h.q.2 k hk).2.1, ng (h.q.2 k hk).2.2⟩⟩, kept_trans1 h.ke hr.2, h.lt, h.bs⟩
/-- What turns new memory alone. -/
theorem TK.below (h : TK w g bz bo s x vl vp rs W) (hb : Below W.heap.size W W') : TK w g bz bo s x vl vp rs W' :=
  ⟨h.r.below hb, by rw [hb.block bz (lt_of_some h.z)]; exact h.z, by rw [hb.block bo (lt_of_some h.o)]; exact h.o, h.l.below hb, h.p.below hb, ⟨h.q.1, fun k hk => ⟨(h.q.2 k hk).1, (h.q.2 k hk).2.1.below hb, (h.q.2 k hk).2.2.below hb⟩⟩, h.ke.trans (Below.kept hb (fun _ => False)) (fun _ _ q => q.elim), h.lt, h.bs⟩
theorem TK.drew (h : TK w g bz bo s x vl vp rs W) : TK w g bz bo s x vl vp rs W.drew := h.below ⟨rfl, rfl, rfl, Nat.le_refl _, fun _ _ => rfl⟩
/-- A reader's call that makes memory besides. -/
theorem TK.reads (h : TK w g bz bo s x vl vp rs W) (hr : RAt W' g s') (hk : Kept (fun k => k = g) W W') : TK w g bz bo s' x vl vp rs W' := h.read ⟨hr, hk⟩
/-- A cell of the object's box is written. -/
theorem TK.put (h : TK w g bz bo s x vl vp rs W) {i : Nat} {v : Value} {x' : Ob} {vl' vp' : Value} (he : (#[.string x.p, .string x.n, vl, .int .i64 x.pr, .int .i64 x.dl, vp, .int .i64 x.ver] : Array Value).setIfInBounds i v = #[.string x'.p, .string x'.n, vl', .int .i64 x'.pr, .int .i64 x'.dl, vp', .int .i64 x'.ver])
    (hl : OwnR kLb w.heap.size W vl' x'.ls) (hp : OwnR kPt w.heap.size W vp' rs) (hq : Nst w.heap.size W rs x'.ps) : TK w g bz bo s x' vl' vp' rs (W.setCell ⟨bo, i, none⟩ v) := by
  have hk : Kept (fun k => k = bo) W (W.setCell ⟨bo, i, none⟩ v) := kept_set _ _ _ rfl
  have hlt := h.lt
  have hb := h.bs
  have tb : ∀ (t : TypeId), t ≠ 25 → ∀ k cs m, k = bo → W.heap[k]? ≠ some (.cells cs t m) := fun t ht k cs m e q => by
    rw [e, h.o] at q; simp only [Option.some.injEq, Obj.cells.injEq] at q; exact ht q.2.1.symm
  refine ⟨h.r.kept hk (by omega) (fun b cs m hc e => tb _ (by decide) b cs m e hc), by rw [hk.block bz (lt_of_some h.z) (by omega)]; exact h.z, ?_, hl.kept_ty hk (tb _ (by decide)), hp.kept_ty hk (tb _ (by decide)), hq.kept hk (tb _ (by decide)), h.ke.trans hk (fun y hy e => by omega), h.lt, h.bs⟩
  rw [heap_setCell_same W bo i _ _ _ h.o, he]
theorem TK.cells (h : TK w g bz bo s x vl vp rs W) : ∀ i y, (#[.string x.p, .string x.n, vl, .int .i64 x.pr, .int .i64 x.dl, vp, .int .i64 x.ver] : Array Value)[i]? = some y → W.cell? ⟨bo, i, none⟩ = some y := fun i y hy => by
  rw [cell_of_row W bo i _ _ _ h.o]; exact hy
theorem TK.free (h : TK w g bz bo s x vl vp rs W) (i : Nat) : W.frozen? ⟨bo, i, none⟩ = false := frozen_of_row _ _ _ _ _ h.o
/-- A label is appended and laid into the box. -/
theorem TK.label (h : TK w g bz bo s x vl vp rs W) {v' : Value} {y : ByteArray × ByteArray} (ho : OwnR kLb w.heap.size W' v' (x.ls ++ [y])) (hg : W.grownBy W' vl.ownBlock) : TK w g bz bo s { x with ls := x.ls ++ [y] } v' vp rs (W'.setCell ⟨bo, 2, none⟩ v') := by
  have hk := grown_kept hg
  have hlt := h.lt
  have hb := h.bs
  have nb : ∀ k, some k = vl.ownBlock → ∃ cs m, W.heap[k]? = some (.cells cs kLb.t m) := fun k e => h.l.ty k e.symm
  have tb : ∀ (t : TypeId), t ≠ kLb.t → ∀ k cs m, some k = vl.ownBlock → W.heap[k]? ≠ some (.cells cs t m) := fun t ht k cs m e q => by
    obtain ⟨cs', m', h'⟩ := nb k e
    rw [h'] at q; simp only [Option.some.injEq, Obj.cells.injEq] at q; exact ht q.2.1.symm
  have h2 : TK w g bz bo s x vl vp rs W' → False ∨ True := fun _ => .inr trivial
  have H : TK w g bz bo s { x with ls := x.ls ++ [y] } v' vp rs (W'.setCell ⟨bo, 2, none⟩ v') := by
    have oo : W'.heap[bo]? = some (.cells #[.string x.p, .string x.n, vl, .int .i64 x.pr, .int .i64 x.dl, vp, .int .i64 x.ver] 25 (0, 0)) := by
      rw [hk.block bo (lt_of_some h.o) (fun e => tb _ (by decide) bo _ _ e h.o)]; exact h.o
    have k2 : Kept (fun k => k = bo) W' (W'.setCell ⟨bo, 2, none⟩ v') := kept_set _ _ _ rfl
    have t2 : ∀ (t : TypeId), t ≠ 25 → ∀ k cs m, k = bo → W'.heap[k]? ≠ some (.cells cs t m) := fun t ht k cs m e q => by
      rw [e, oo] at q; simp only [Option.some.injEq, Obj.cells.injEq] at q; exact ht q.2.1.symm
    have r1 : RAt W' g s := h.r.appended h.l hg h.lt (by decide)
    refine ⟨r1.kept k2 (by omega) (fun b cs m hc e => t2 _ (by decide) b cs m e hc), ?_, ?_, ho.kept_ty k2 (t2 _ (by decide)), (h.p.kept_ty hk (tb _ (by decide))).kept_ty k2 (t2 _ (by decide)), (h.q.kept hk (tb _ (by decide))).kept k2 (t2 _ (by decide)), (grown_g h.l hg h.ke).trans k2 (fun y hy e => by omega), h.lt, h.bs⟩
    · rw [k2.block bz (Nat.lt_of_lt_of_le (lt_of_some h.z) hk.size) (by omega), hk.block bz (lt_of_some h.z) (fun e => tb _ (by decide) bz _ _ e h.z)]; exact h.z
    · rw [heap_setCell_same W' bo 2 _ _ _ oo]; rfl
  exact H
/-- A part is appended and laid into the box. -/
theorem TK.part (h : TK w g bz bo s x vl vp rs W) {v' : Value} {r : Pr} {y : Pt} (ho : OwnR kPt w.heap.size W' v' (rs ++ [r])) (hg : W.grownBy W' vp.ownBlock) (h1 : r.n = y.n) (h2 : OwnR kAm w.heap.size W r.r.v y.r) (h3 : OwnR kAm w.heap.size W r.l.v y.l) :
    TK w g bz bo s { x with ps := x.ps ++ [y] } vl v' (rs ++ [r]) (W'.setCell ⟨bo, 5, none⟩ v') := by
  have hk := grown_kept hg
  have hlt := h.lt
  have hb := h.bs
  have tb : ∀ (t : TypeId), t ≠ kPt.t → ∀ k cs m, some k = vp.ownBlock → W.heap[k]? ≠ some (.cells cs t m) := fun t ht k cs m e q => by
    obtain ⟨cs', m', h'⟩ := h.p.ty k e.symm
    rw [h'] at q; simp only [Option.some.injEq, Obj.cells.injEq] at q; exact ht q.2.1.symm
  have oo : W'.heap[bo]? = some (.cells #[.string x.p, .string x.n, vl, .int .i64 x.pr, .int .i64 x.dl, vp, .int .i64 x.ver] 25 (0, 0)) := by
    rw [hk.block bo (lt_of_some h.o) (fun e => tb _ (by decide) bo _ _ e h.o)]; exact h.o
  have k2 : Kept (fun k => k = bo) W' (W'.setCell ⟨bo, 5, none⟩ v') := kept_set _ _ _ rfl
  have t2 : ∀ (t : TypeId), t ≠ 25 → ∀ k cs m, k = bo → W'.heap[k]? ≠ some (.cells cs t m) := fun t ht k cs m e q => by
    rw [e, oo] at q; simp only [Option.some.injEq, Obj.cells.injEq] at q; exact ht q.2.1.symm
  have r1 : RAt W' g s := h.r.appended h.p hg h.lt (by decide)
  refine ⟨r1.kept k2 (by omega) (fun b cs m hc e => t2 _ (by decide) b cs m e hc), ?_, ?_, (h.l.kept_ty hk (tb _ (by decide))).kept_ty k2 (t2 _ (by decide)), ho.kept_ty k2 (t2 _ (by decide)), ((h.q.add h1 h2 h3).kept hk (tb _ (by decide))).kept k2 (t2 _ (by decide)), (grown_g h.p hg h.ke).trans k2 (fun y hy e => by omega), h.lt, h.bs⟩
  · rw [k2.block bz (Nat.lt_of_lt_of_le (lt_of_some h.z) hk.size) (by omega), hk.block bz (lt_of_some h.z) (fun e => tb _ (by decide) bz _ _ e h.z)]; exact h.z
  · rw [heap_setCell_same W' bo 5 _ _ _ oo]; rfl
theorem TK.calls (h : TK w g bz bo s x vl vp rs W) {f : Nat} {args : Array Value} {r : Ending} (hc : Calls Tryz.prog f args W fun e w' => e = r ∧ Read g s' W w') : Calls Tryz.prog f args W fun e w' => e = r ∧ TK w g bz bo s' x vl vp rs w' :=
  hc.mono fun _ _ q => ⟨q.1, h.read q.2⟩
theorem TK.boxL (h : TK w g bz bo s x vl vp rs W) (hg : W.grownBy W' vl.ownBlock) : W'.heap[bo]? = some (.cells #[.string x.p, .string x.n, vl, .int .i64 x.pr, .int .i64 x.dl, vp, .int .i64 x.ver] 25 (0, 0)) := by
  rw [(grown_kept hg).block bo (lt_of_some h.o) (fun e => by
    obtain ⟨cs', m', h'⟩ := h.l.ty bo e.symm
    rw [h.o] at h'; simp only [Option.some.injEq, Obj.cells.injEq] at h'; exact absurd h'.2.1 (by decide))]; exact h.o
theorem TK.boxP (h : TK w g bz bo s x vl vp rs W) (hg : W.grownBy W' vp.ownBlock) : W'.heap[bo]? = some (.cells #[.string x.p, .string x.n, vl, .int .i64 x.pr, .int .i64 x.dl, vp, .int .i64 x.ver] 25 (0, 0)) := by
  rw [(grown_kept hg).block bo (lt_of_some h.o) (fun e => by
    obtain ⟨cs', m', h'⟩ := h.p.ty bo e.symm
    rw [h.o] at h'; simp only [Option.some.injEq, Obj.cells.injEq] at h'; exact absurd h'.2.1 (by decide))]; exact h.o
theorem Nst.pts {B : Nat} {v : Value} {ps : List Pt} (h : Nst B W rs ps) (ho : OwnR kPt B W v rs) : Pts W v ps :=
  ⟨rs, ho.row okPt, h.1, fun k hk => ⟨(h.2 k hk).1, (h.2 k hk).2.1.row okAm, (h.2 k hk).2.2.row okAm⟩⟩
/-- An object whose lists are the call's own. -/
def ObO (B : Nat) (W : World) (vl vp : Value) (x : Ob) : Prop := ∃ rs, OwnR kLb B W vl x.ls ∧ OwnR kPt B W vp rs ∧ Nst B W rs x.ps
theorem ObO.obv {B : Nat} (h : ObO B W vl vp x) : ObV W vl vp x := by
  obtain ⟨rs, h1, h2, h3⟩ := h
  exact ⟨h1.row okLb, h3.pts h2⟩
theorem ObO.kept {B : Nat} {F : Nat → Prop} (h : ObO B W vl vp x) (hk : Kept F W W') (hF : ∀ k, F k → k < B) : ObO B W' vl vp x := by
  obtain ⟨rs, h1, h2, h3⟩ := h
  have ng : ∀ {α : Type} {K : Kd α} {v : Value} {l : List α}, OwnR K B W v l → OwnR K B W' v l := fun ho => ho.kept hk (fun k hk e => by have := (ho.lt k hk).1; have := hF k e; omega)
  exact ⟨rs, ng h1, ng h2, h3.1, fun k hk => ⟨(h3.2 k hk).1, ng (h3.2 k hk).2.1, ng (h3.2 k hk).2.2⟩⟩
theorem ObO.below {B : Nat} (h : ObO B W vl vp x) (hb : Below W.heap.size W W') : ObO B W' vl vp x := h.kept (Below.kept hb (fun _ => False)) (fun _ q => q.elim)
theorem ObO.mono {B B' : Nat} (h : ObO B W vl vp x) (hB : B' ≤ B) : ObO B' W vl vp x := by
  obtain ⟨rs, h1, h2, h3⟩ := h
  exact ⟨rs, h1.mono hB, h2.mono hB, h3.1, fun k hk => ⟨(h3.2 k hk).1, (h3.2 k hk).2.1.mono hB, (h3.2 k hk).2.2.mono hB⟩⟩
theorem ObO.zero (B : Nat) (W : World) : ObO B W (.slice none 0 0) (.slice none 0 0) Ob.z := ⟨[], OwnR.nil _ _ _, OwnR.nil _ _ _, rfl, fun k hk => by simp [Ob.z] at hk⟩
theorem kept_setRow (w : World) (g : Nat) (cs : Array Value) : Kept (fun k => k = g) w (w.setRow g cs) := ⟨rfl, rfl, rfl, by simp [World.setRow], fun k _ hn => setRow_other w g k cs hn⟩
/-- The object is laid into the answer's box. -/
theorem TK.done (h : TK w g bz bo s x vl vp rs W) (cs : Array Value) : ObO w.heap.size (W.setRow bz cs) vl vp x ∧ RAt (W.setRow bz cs) g s ∧ Kept (fun k => k = g) w (W.setRow bz cs) := by
  have hk := kept_setRow W bz cs
  have hlt := h.lt
  have hb := h.bs
  have tb : ∀ (t : TypeId), t ≠ 25 → ∀ k cs m, k = bz → W.heap[k]? ≠ some (.cells cs t m) := fun t ht k cs m e q => by
    rw [e, h.z] at q; simp only [Option.some.injEq, Obj.cells.injEq] at q; exact ht q.2.1.symm
  exact ⟨⟨rs, h.l.kept_ty hk (tb _ (by decide)), h.p.kept_ty hk (tb _ (by decide)), h.q.kept hk (tb _ (by decide))⟩, h.r.kept hk (by omega) (fun b cs m hc e => tb _ (by decide) b cs m e hc), h.ke.trans hk (fun y hy e => by omega)⟩
theorem enters (f : FuncId) (fn : Func) (hf : Tryz.prog.funcs[f]? = some fn) (hn : (fn.name == "runtime.NumGoroutine") = false) (hb : fn.body.isSome = true) (args : Array Value) (w : World) : (callFunc f args).run Tryz.prog w = .ok (.enter f args) w := by
  obtain ⟨c, hc⟩ := Option.isSome_iff_exists.1 hb
  have hne : ¬ fn.name = "runtime.NumGoroutine" := fun e => by rw [e] at hn; simp at hn
  simp [callFunc, hf, hne, hc]
/-- A call as a step of a drawn region. -/
theorem step_call {f : FuncId} {ops : Array Oper} {o : Oper} {a : Act} {K : Act → World → Prop} {Q : Exit → Act → World → Prop} {E : Prop} (hcf : ∀ args w, (callFunc f args).run Tryz.prog w = .ok (.enter f args) w) (hgd : o.guard = none) (y : Operand) (ts : Array TypeId)
    (ho : o.op = .call { callee := .value (.func f), args := #[y], argTypes := ts }) {u : Value} {W : World} (hy : a.eval y = u) {P : Value → World → Prop}
    (hc : Calls Tryz.prog f #[u] W fun e w1 => ∃ V, e = .returned V ∧ P V w1) (h : ∀ V w1, Hid (P V w1) → K (a.put o.dst V) w1) :
    if Region.wanted o (yielded ops a.tmps) = true then Oper.wp Tryz.prog o a W K Q else E := by
  have hw : Region.wanted o (yielded ops a.tmps) = true := by simp [Region.wanted, hgd]
  rw [if_pos hw]
  have hf : a.eval (.func f) = .func (.func f) #[] #[] := rfl
  have hrun : (execOp a.eval o).run Tryz.prog W = .ok (.enter f #[u]) W := by
    unfold execOp
    simp only [ho, resolve, hf, hy, Deferred.ofValue, List.map_toArray, List.map_cons, List.map_nil, Sem.run_bind, Sem.run_pure, Result.andThen_ok, invoke]
    exact hcf _ W
  unfold Oper.wp
  rw [hrun, Oper.upon_enter]
  refine hc.mono ?_
  rintro e w1 ⟨V, rfl, hp⟩
  exact h V w1 (Lib.hid hp)
theorem step_text {ops : Array Oper} {o : Oper} {a : Act} {K : Act → World → Prop} {Q : Exit → Act → World → Prop} {E : Prop} (hgd : o.guard = none) (y : Operand) (ts : Array TypeId)
    (ho : o.op = .call { callee := .value (.func 49), args := #[y], argTypes := ts }) (g : Nat) (s : RS) (W : World) (hy : a.eval y = .pointer (some ⟨g, 0, none⟩)) (hr : RAt W g s) (X : ByteArray) (hX : txt (s.text 8192).1 = X)
    (h : ∀ w1, Hid (Read g (s.text 8192).2 W w1) → K (a.put o.dst (.string X)) w1) :
    if Region.wanted o (yielded ops a.tmps) = true then Oper.wp Tryz.prog o a W K Q else E := by
  subst hX
  refine step_call (P := fun V w1 => V = .string (txt (s.text 8192).1) ∧ Read g (s.text 8192).2 W w1) (enters _ _ Tryz.func49 (by kernel_rfl) (by kernel_rfl)) hgd y ts ho hy ((takeText_any g s W hr).mono fun _ _ q => ⟨_, q.1, rfl, q.2⟩) ?_
  rintro V w1 hp
  rw [hp.out.1]
  exact h w1 (Lib.hid hp.out.2)
theorem step_ams {ops : Array Oper} {o : Oper} {a : Act} {K : Act → World → Prop} {Q : Exit → Act → World → Prop} {E : Prop} (hgd : o.guard = none) (y : Operand) (ts : Array TypeId)
    (ho : o.op = .call { callee := .value (.func 52), args := #[y], argTypes := ts }) (g : Nat) (s : RS) (W : World) (hy : a.eval y = .pointer (some ⟨g, 0, none⟩)) (hr : RAt W g s)
    (h : ∀ a1 n1 c1 w1, Hid (OwnR kAm W.heap.size w1 (.slice a1 n1 c1) (tkAms s).1 ∧ RAt w1 g (tkAms s).2 ∧ Kept (fun k => k = g) W w1) → K (a.put o.dst (.slice a1 n1 c1)) w1) :
    if Region.wanted o (yielded ops a.tmps) = true then Oper.wp Tryz.prog o a W K Q else E := by
  refine step_call (P := fun V w1 => ∃ a1 n1 c1, V = .slice a1 n1 c1 ∧ OwnR kAm W.heap.size w1 (.slice a1 n1 c1) (tkAms s).1 ∧ RAt w1 g (tkAms s).2 ∧ Kept (fun k => k = g) W w1) (enters _ _ Tryz.func52 (by kernel_rfl) (by kernel_rfl)) hgd y ts ho hy ((takeAmounts_any g s W hr).mono fun _ _ q => ?_) ?_
  · obtain ⟨a1, n1, c1, rfl, q2⟩ := q
    exact ⟨_, rfl, a1, n1, c1, rfl, q2⟩
  · rintro V w1 hp
    obtain ⟨a1, n1, c1, rfl, q2⟩ := hp.out
    exact h a1 n1 c1 w1 (Lib.hid q2)
theorem step_rowB {α : Type} {KD : Kd α} (ok : KD.Ok) {ops : Array Oper} {o : Oper} {a : Act} {K : Act → World → Prop} {Q : Exit → Act → World → Prop} {E : Prop} (hgd : o.guard = none) (s y : Operand)
    (ho : o.op = .call { callee := .builtin .append, args := #[s, y], argTypes := #[KD.s, KD.s] })
    {B : Nat} {w0 : World} {v : Value} {es : List α} (hs : a.eval s = v) (hown : OwnR KD B w0 v es) (hB : B ≤ w0.heap.size) (p : α) {cs : Array Value} (hcs : cs = (KD.c p).toArray)
    (hx : a.eval y = .slice (some ⟨w0.heap.size, 0, none⟩) 1 1) (hl : (es.length + 1) * KD.b ≤ 140737488355328)
    (h : ∀ a' n' c' w', Hid (OwnR KD B w' (.slice a' n' c') (es ++ [p]) ∧ w0.grownBy w' v.ownBlock ∧ n' = es.length + 1) → K (a.put o.dst (.slice a' n' c')) w') :
    if Region.wanted o (yielded ops a.tmps) = true then Oper.wp Tryz.prog o a (w0.alloc (.cells cs KD.t)) K Q else E := by
  subst hcs
  obtain ⟨zv, hinf, hzc⟩ := ok.inf
  obtain ⟨i0, hi, hz0, hz1, hz2⟩ := info_parts hinf
  have hb := ok.by0
  refine step_append_own hgd s y KD.s ho B KD.t i0 _ KD.k KD.b ok.und hi hz0 hz1 hz2 hzc ok.pos v es.length (cellsR KD es) hs (World.ownsRow.alloc hown _) ⟨w0.heap.size, 0, none⟩ 1 1 (KD.c p) hx (by rw [ok.len, Nat.one_mul]) ?_ (ok.one p) (by have := Nat.le_mul_of_pos_right (es.length + 1) hb.1; unfold maxLen; omega) ?_ (by simp; omega) ?_
  · intro j u hj
    rw [add_plain, Nat.zero_add, World.cell?_alloc_new, ← Array.getElem?_toList]; exact hj
  · exact hl
  · intro v' w' h1 h2
    have o2 : OwnR KD B w' v' (es ++ [p]) := by
      show w'.ownsRow _ _ _ _ _ _
      rw [cellsR_app, List.length_append, cellsR_single]; exact h1
    obtain ⟨a7, c7, h7⟩ := o2.slice
    subst h7
    exact h _ _ _ w' (Lib.hid ⟨o2, grown_alloc h2, by simp⟩)
theorem step_row {α : Type} {KD : Kd α} (ok : KD.Ok) {ops : Array Oper} {o : Oper} {a : Act} {K : Act → World → Prop} {Q : Exit → Act → World → Prop} {E : Prop} (hgd : o.guard = none) (s y : Operand)
    (ho : o.op = .call { callee := .builtin .append, args := #[s, y], argTypes := #[KD.s, KD.s] })
    {B : Nat} {w0 : World} {v : Value} {es : List α} (hs : a.eval s = v) (hown : OwnR KD B w0 v es) (hB : B ≤ w0.heap.size) (p : α) {cs : Array Value} (hcs : cs = (KD.c p).toArray)
    (hx : a.eval y = .slice (some ⟨w0.heap.size, 0, none⟩) 1 1) (hl : es.length < 100000000)
    (h : ∀ a' n' c' w', Hid (OwnR KD B w' (.slice a' n' c') (es ++ [p]) ∧ w0.grownBy w' v.ownBlock ∧ n' = es.length + 1) → K (a.put o.dst (.slice a' n' c')) w') :
    if Region.wanted o (yielded ops a.tmps) = true then Oper.wp Tryz.prog o a (w0.alloc (.cells cs KD.t)) K Q else E :=
  step_rowB ok hgd s y ho hs hown hB p hcs hx (Nat.le_trans (Nat.mul_le_mul (show es.length + 1 ≤ 100000000 by omega) ok.by0.2) (by decide)) h
theorem size_obj : (Tryz.prog.info? 25).map (·.size) = some 7 := by kernel_rfl
/-- What takeObject tells. -/
def tk1 (s : RS) : RS := (s.text 8192).2
def tk2 (s : RS) : RS := ((tk1 s).text 8192).2
def tk3 (s : RS) : List (ByteArray × ByteArray) × RS := tkN tkL ((tk2 s).count 16).1 ((tk2 s).count 16).2
def tk4 (s : RS) : RS := (tk3 s).2.byte.2
def tk5 (s : RS) : RS := (tk4 s).uint.2
def tk6 (s : RS) : List Pt × RS := tkN tkP ((tk5 s).count 8).1 ((tk5 s).count 8).2
def tkO (s : RS) : Ob := ⟨txt (s.text 8192).1, txt ((tk1 s).text 8192).1, (tk3 s).1, c8 (tk3 s).2.byte.1, wrap64 ((tk4 s).uint.1 : Int), (tk6 s).1, wrap64 ((tk6 s).2.uint.1 : Int)⟩
def tkE (s : RS) : RS := (tk6 s).2.uint.2
set_option maxHeartbeats 8000000 in
set_option maxRecDepth 100000 in
theorem takeObject_any (g : Nat) (s : RS) (w : World) (H : RAt w g s) :
    Calls Tryz.prog 26 #[.pointer (some ⟨g, 0, none⟩)] w fun e w' => ∃ vl vp, e = .returned ((tkO s).val vl vp) ∧ ObO w.heap.size w' vl vp (tkO s) ∧ RAt w' g (tkE s) ∧ Kept (fun k => k = g) w w' := by
  have H0 := Lib.hid H
  clear H
  obtain ⟨X0, hX0⟩ : ∃ X0, X0 = w.alloc (.cells #[.string ⟨#[]⟩, .string ⟨#[]⟩, .slice none 0 0, .int .i64 0, .int .i64 0, .slice none 0 0, .int .i64 0] 25) := ⟨_, rfl⟩
  have AX : Hid (Below w.heap.size w X0 ∧ X0.heap.size = w.heap.size + 1 ∧ X0.heap[w.heap.size]? = some (.cells #[.string ⟨#[]⟩, .string ⟨#[]⟩, .slice none 0 0, .int .i64 0, .int .i64 0, .slice none 0 0, .int .i64 0] 25 (0, 0))) := Lib.hid (by
    rw [hX0]; exact ⟨(Below.refl _ w).alloc (Nat.le_refl _) _, by simp, by rw [heap_alloc_new]⟩)
  have R0 : Hid (RAt X0 g s) := Lib.hid (H0.out.below AX.out.1)
  have hX0' := hX0.symm
  clear hX0
  go_enter Tryz.func26, Tryz.ntmps26
  go_wp2_with fail
  clear hX0'
  refine (takeText_any g s X0 R0.out).mono ?_
  rintro e w1 ⟨rfl, hr⟩
  have R1 := Lib.hid hr
  clear hr
  go_wp2_with fail
  refine (takeText_any g _ w1 R1.out.1).mono ?_
  rintro e w2 ⟨rfl, hr⟩
  have R2 := Lib.hid (R1.out.trans hr)
  clear hr R1
  obtain ⟨P1, hP1⟩ : ∃ P1, P1 = txt (s.text 8192).1 := ⟨_, rfl⟩
  obtain ⟨N1, hN1⟩ : ∃ N1, N1 = txt ((s.text 8192).2.text 8192).1 := ⟨_, rfl⟩
  rw [← hP1, ← hN1]
  have PN : Aside (P1 = txt (s.text 8192).1 ∧ N1 = txt ((tk1 s).text 8192).1) := ⟨hP1, hN1⟩
  clear hP1 hN1
  obtain ⟨bz, hbz⟩ : ∃ bz, bz = w.heap.size := ⟨_, rfl⟩
  obtain ⟨bo, hbo⟩ : ∃ bo, bo = w2.heap.size := ⟨_, rfl⟩
  have T0 : Aside (TK w g bz bo (tk2 s) ⟨P1, N1, [], 0, 0, [], 0⟩ (.slice none 0 0) (.slice none 0 0) [] (w2.alloc (.cells #[.string P1, .string N1, .slice none 0 0, .int .i64 0, .int .i64 0, .slice none 0 0, .int .i64 0] 25))) := by
    have k1 := R2.out.2
    have hg := H0.out.lt
    have a2 := AX.out.2.1
    have s2 : w.heap.size + 1 ≤ w2.heap.size := by rw [← a2]; exact k1.size
    have hb : Below w2.heap.size w2 (w2.alloc (.cells #[.string P1, .string N1, .slice none 0 0, .int .i64 0, .int .i64 0, .slice none 0 0, .int .i64 0] 25)) := (Below.refl _ _).alloc (Nat.le_refl _) _
    refine ⟨R2.out.1.below hb, ?_, ?_, OwnR.nil _ _ _, OwnR.nil _ _ _, ⟨rfl, fun k hk => by simp at hk⟩, ?_, hg, ⟨by omega, by omega, by omega⟩⟩
    · rw [hbz, hb.block _ (by omega), k1.block _ (by omega) (by omega)]; exact AX.out.2.2
    · rw [hbo, heap_alloc_new]
    · exact ((Below.kept AX.out.1 (fun k => k = g)).trans k1 (fun _ _ q => q)).trans (Below.kept hb (fun _ => False)) (fun _ _ q => q.elim)
  rw [← hbz]
  go_wp2_with fail
  rw [← hbo]
  have HBZ : Aside (bz = w.heap.size) := hbz
  clear hbz hbo R2
  refine (T0.out.calls (rCount_any g 16 _ _ (by decide) T0.out.r)).mono ?_
  rintro e w3 ⟨rfl, hl⟩
  obtain ⟨n, hn⟩ : ∃ n : Nat, n = ((tk2 s).count 16).1 := ⟨_, rfl⟩
  have hn2 : n ≤ 16 := by rw [hn]; exact count_le _ 16 (by decide)
  have T1 : Aside (TK w g bz bo ((tk2 s).count 16).2 ⟨P1, N1, [], 0, 0, [], 0⟩ (.slice none 0 0) (.slice none 0 0) [] w3 ∧ tkN tkL n ((tk2 s).count 16).2 = tk3 s) := ⟨hl, by rw [hn]; rfl⟩
  rw [← hn]
  clear hl T0 hn
  go_wp2_with fail
  go_loopg [11] n (fun gg si wr => ∃ (k : Nat) (s2 : RS) (acc : List (ByteArray × ByteArray)) (a : Option Addr) (m c : Nat), k ≤ n ∧ gg = n - k ∧ si = .int .i64 k ∧ acc.length = k ∧ (acc ++ (tkN tkL (n - k) s2).1, (tkN tkL (n - k) s2).2) = tk3 s ∧ TK w g bz bo s2 ⟨P1, N1, acc, 0, 0, [], 0⟩ (.slice a m c) (.slice none 0 0) [] wr)
  case atStart => exact ⟨0, _, [], none, 0, 0, Nat.zero_le _, rfl, rfl, rfl, T1.out.2, T1.out.1⟩
  case round =>
    clear T1
    obtain ⟨k, s2, acc, a, m, c, hk, hg, rfl, hacc, hrd, hl⟩ := hrel
    have R : Aside (gk = n - k ∧ acc.length = k ∧ (acc ++ (tkN tkL (n - k) s2).1, (tkN tkL (n - k) s2).2) = tk3 s) := ⟨hg, hacc, hrd⟩
    have T : Aside (TK w g bz bo s2 ⟨P1, N1, acc, 0, 0, [], 0⟩ (.slice a m c) (.slice none 0 0) [] wr) := hl
    clear hg hrd hl hacc
    by_cases hlt : k < n
    · have hlt' : (k : Int) < (n : Int) := by omega
      have RD : Aside (((acc ++ [(tkL s2).1]) ++ (tkN tkL (n - (k + 1)) (tkL s2).2).1, (tkN tkL (n - (k + 1)) (tkL s2).2).2) = tk3 s) := tkN_step tkL n k s2 acc _ hlt R.out.2.2
      have LN : Hid (acc.length < 100000000) := Lib.hid (by have := R.out.2.1; omega)
      obtain ⟨X, hX⟩ : ∃ X, X = txt (s2.text 8192).1 := ⟨_, rfl⟩
      obtain ⟨Y, hY⟩ : ∃ Y, Y = txt ((s2.text 8192).2.text 8192).1 := ⟨_, rfl⟩
      have EX : Aside ((tkL s2).1 = (X, Y)) := by show _ = _; rw [hX, hY]; rfl
      have HX := Lib.hid hX.symm
      have HY := Lib.hid hY.symm
      clear hX hY
      have TD := Lib.hid T.out.drew
      have e2 := TD.out.cells 2 _ rfl
      have f2 := T.out.cells 2 _ rfl
      go_wp2_with fail
      go_region_law (first | (refine step_text rfl (.tmp 15) _ rfl g s2 wr.drew rfl TD.out.r X HX.out ?_; intro w1 H1; have S1 := Lib.hid (TD.out.read H1.out); have q2 := S1.out.cells 2 _ rfl) | (refine step_text rfl (.tmp 17) _ rfl g (s2.text 8192).2 w1 rfl S1.out.r Y HY.out ?_; intro w2 H2; have S2 := Lib.hid (S1.out.read H2.out); have m2 := S2.out.cells 2 _ rfl; have mA : ∀ ob, (w2.alloc ob).cell? ⟨bo, 2, none⟩ = some (.slice a m c) := (fun ob => by rw [((Below.refl w2.heap.size w2).alloc (Nat.le_refl _) ob).cell (block_lt_of_cell m2)]; exact m2); have LB : Hid (w.heap.size ≤ w2.heap.size) := Lib.hid S2.out.ke.size) | (refine step_row okLb rfl (.tmp 14) (.tmp 20) rfl (B := w.heap.size) (w0 := w2) (v := .slice a m c) (es := acc) rfl S2.out.l LB.out (X, Y) rfl rfl LN.out ?_; intro a3 n3 c3 w3 H3; have GN := Lib.hid (S2.out.boxL H3.out.2.1); have y2 : w3.frozen? ⟨bo, 2, none⟩ = false := frozen_of_row _ _ _ _ _ GN.out; have z2 : w3.cell? ⟨bo, 2, none⟩ = some (.slice a m c) := by rw [cell_of_row w3 bo 2 _ _ _ GN.out]; rfl))
      all_goals
        have S4 := Lib.hid (S2.out.label H3.out.1 H3.out.2.1)
        clear y2 z2 mA m2 q2 e2 f2
        obtain ⟨W4, hW4⟩ : ∃ W4, w3.setCell ⟨bo, 2, none⟩ (.slice a3 n3 c3) = W4 := ⟨_, rfl⟩
        rw [hW4] at S4
        rw [hW4]
        clear hW4
        go_wp2_with fail
        go_roundg (n - (k + 1))
        case measure => have := R.out.1; omega
        case rel => exact ⟨k + 1, _, _, a3, n3, c3, by omega, rfl, by go_num, by have := R.out.2.1; simp; omega, by have := RD.out; rw [EX.out] at this; exact this, S4.out⟩
    · have E : acc = (tk3 s).1 ∧ s2 = (tk3 s).2 := by
        have := R.out.2.2
        rw [show n - k = 0 by omega, tkN, List.append_nil] at this
        exact ⟨by rw [← this], by rw [← this]⟩
      obtain ⟨LS, hLS⟩ : ∃ LS, LS = (tk3 s).1 := ⟨_, rfl⟩
      have T2 : Aside (TK w g bz bo (tk3 s).2 ⟨P1, N1, LS, 0, 0, [], 0⟩ (.slice a m c) (.slice none 0 0) [] wr) := by
        have := T.out; rw [E.1, E.2, ← hLS] at this; exact this
      have HLS := Lib.hid hLS
      clear E hLS T R
      go_wp2_with fail
      refine (T2.out.calls (rByte_any g _ wr T2.out.r)).mono ?_
      rintro e w5 ⟨rfl, hl⟩
      have hB8 : 0 ≤ c8 (tk3 s).2.byte.1 ∧ c8 (tk3 s).2.byte.1 ≤ 255 := by unfold c8; have := (tk3 s).2.byte.1.toNat_lt; omega
      obtain ⟨V3, hV3⟩ : ∃ V3 : Int, V3 = c8 (tk3 s).2.byte.1 := ⟨_, rfl⟩
      rw [← hV3] at hB8 ⊢
      have HV3 := Lib.hid hV3
      clear hV3
      have d3 := hl.cells 3 _ rfl
      have y3 := hl.free 3
      have T3 : Aside (TK w g bz bo (tk4 s) ⟨P1, N1, LS, V3, 0, [], 0⟩ (.slice a m c) (.slice none 0 0) [] (w5.setCell ⟨bo, 3, none⟩ (.int .i64 V3))) := hl.put (i := 3) rfl hl.l hl.p hl.q
      clear hl T2
      go_wp2_with fail
      obtain ⟨W5, hW5⟩ : ∃ W5, w5.setCell ⟨bo, 3, none⟩ (.int .i64 V3) = W5 := ⟨_, rfl⟩
      rw [hW5] at T3
      rw [hW5]
      clear hW5 d3 y3
      refine (T3.out.calls (rUint_any g _ W5 T3.out.r)).mono ?_
      rintro e w6 ⟨rfl, hl⟩
      have hU4 := uint_lt (tk4 s)
      obtain ⟨U4, hU4'⟩ : ∃ U4 : Nat, U4 = (tk4 s).uint.1 := ⟨_, rfl⟩
      rw [← hU4'] at hU4 ⊢
      obtain ⟨V4, hV4⟩ : ∃ V4 : Int, V4 = wrap64 (U4 : Int) := ⟨_, rfl⟩
      have HV4 : Hid (V4 = wrap64 ((tk4 s).uint.1 : Int)) := Lib.hid (by rw [hV4, hU4'])
      clear hU4'
      have d4 := hl.cells 4 _ rfl
      have y4 := hl.free 4
      have T4 : Aside (TK w g bz bo (tk5 s) ⟨P1, N1, LS, V3, V4, [], 0⟩ (.slice a m c) (.slice none 0 0) [] (w6.setCell ⟨bo, 4, none⟩ (.int .i64 V4))) := hl.put (i := 4) rfl hl.l hl.p hl.q
      clear hl T3
      go_wp2_with fail
      rw [← hV4]
      obtain ⟨W6, hW6⟩ : ∃ W6, w6.setCell ⟨bo, 4, none⟩ (.int .i64 V4) = W6 := ⟨_, rfl⟩
      rw [hW6] at T4
      rw [hW6]
      clear hW6 d4 y4 hV4
      refine (T4.out.calls (rCount_any g 8 _ W6 (by decide) T4.out.r)).mono ?_
      rintro e w7 ⟨rfl, hl⟩
      obtain ⟨np, hnp⟩ : ∃ np : Nat, np = ((tk5 s).count 8).1 := ⟨_, rfl⟩
      have hnp2 : np ≤ 8 := by rw [hnp]; exact count_le _ 8 (by decide)
      have T5 : Aside (TK w g bz bo ((tk5 s).count 8).2 ⟨P1, N1, LS, V3, V4, [], 0⟩ (.slice a m c) (.slice none 0 0) [] w7 ∧ tkN tkP np ((tk5 s).count 8).2 = tk6 s) := ⟨hl, by rw [hnp]; rfl⟩
      rw [← hnp]
      clear hl T4 hnp
      go_wp2_with fail
      go_loopg [34] np (fun gg si wr => ∃ (k : Nat) (s2 : RS) (acc : List Pt) (rs : List Pr) (a2 : Option Addr) (m2 c2 : Nat), k ≤ np ∧ gg = np - k ∧ si = .int .i64 k ∧ acc.length = k ∧ (acc ++ (tkN tkP (np - k) s2).1, (tkN tkP (np - k) s2).2) = tk6 s ∧ TK w g bz bo s2 ⟨P1, N1, LS, V3, V4, acc, 0⟩ (.slice a m c) (.slice a2 m2 c2) rs wr)
      case atStart => exact ⟨0, _, [], [], none, 0, 0, Nat.zero_le _, rfl, rfl, rfl, T5.out.2, T5.out.1⟩
      case round =>
        clear T5
        obtain ⟨k, s2, acc, rs, a2, m2, c2, hk, hg, rfl, hacc, hrd, hl⟩ := hrel
        have R : Aside (gk = np - k ∧ acc.length = k ∧ (acc ++ (tkN tkP (np - k) s2).1, (tkN tkP (np - k) s2).2) = tk6 s) := ⟨hg, hacc, hrd⟩
        have T : Aside (TK w g bz bo s2 ⟨P1, N1, LS, V3, V4, acc, 0⟩ (.slice a m c) (.slice a2 m2 c2) rs wr) := hl
        clear hg hrd hl hacc
        by_cases hlt : k < np
        · have hlt' : (k : Int) < (np : Int) := by omega
          have RD : Aside (((acc ++ [(tkP s2).1]) ++ (tkN tkP (np - (k + 1)) (tkP s2).2).1, (tkN tkP (np - (k + 1)) (tkP s2).2).2) = tk6 s) := tkN_step tkP np k s2 acc _ hlt R.out.2.2
          have LN : Hid (rs.length < 100000000) := Lib.hid (by have := R.out.2.1; have := T.out.q.1; simp only at this; omega)
          obtain ⟨X, hX⟩ : ∃ X, X = txt (s2.text 8192).1 := ⟨_, rfl⟩
          have EX : Aside ((tkP s2).1 = ⟨X, (tkAms (s2.text 8192).2).1, (tkAms (tkAms (s2.text 8192).2).2).1⟩) := by show _ = _; rw [hX]; rfl
          have HX := Lib.hid hX.symm
          clear hX
          have TD := Lib.hid T.out.drew
          have e2 := TD.out.cells 5 _ rfl
          have f2 := T.out.cells 5 _ rfl
          go_wp2_with fail
          go_region_law (first | (refine step_text rfl (.tmp 38) _ rfl g s2 wr.drew rfl TD.out.r X HX.out ?_; intro w1 H1; have S1 := Lib.hid (TD.out.read H1.out); have q2 := S1.out.cells 5 _ rfl) | (refine step_ams rfl (.tmp 40) _ rfl g (s2.text 8192).2 w1 rfl S1.out.r ?_; intro a4 n4 c4 w2 H2; have S2 := Lib.hid (S1.out.reads H2.out.2.1 H2.out.2.2); have p2 := S2.out.cells 5 _ rfl; have O2 : Hid (OwnR kAm w.heap.size w2 (.slice a4 n4 c4) (tkAms (s2.text 8192).2).1) := Lib.hid (H2.out.1.mono S1.out.ke.size)) | (refine step_ams rfl (.tmp 42) _ rfl g (tkAms (s2.text 8192).2).2 w2 rfl S2.out.r ?_; intro a5 n5 c5 w3 H3; have S3 := Lib.hid (S2.out.reads H3.out.2.1 H3.out.2.2); have O3 : Hid (OwnR kAm w.heap.size w3 (.slice a5 n5 c5) (tkAms (tkAms (s2.text 8192).2).2).1) := Lib.hid (H3.out.1.mono S2.out.ke.size); have O4 : Hid (OwnR kAm w.heap.size w3 (.slice a4 n4 c4) (tkAms (s2.text 8192).2).1) := Lib.hid (O2.out.kept H3.out.2.2 (fun k hk e => by have := (O2.out.lt k hk).1; have := S2.out.lt; omega)); have m9 := S3.out.cells 5 _ rfl; have mA : ∀ ob, (w3.alloc ob).cell? ⟨bo, 5, none⟩ = some (.slice a2 m2 c2) := (fun ob => by rw [((Below.refl w3.heap.size w3).alloc (Nat.le_refl _) ob).cell (block_lt_of_cell m9)]; exact m9); have LB : Hid (w.heap.size ≤ w3.heap.size) := Lib.hid S3.out.ke.size) | (refine step_row okPt rfl (.tmp 37) (.tmp 45) rfl (B := w.heap.size) (w0 := w3) (v := .slice a2 m2 c2) (es := rs) rfl S3.out.p LB.out ⟨X, ⟨a4, n4, c4⟩, ⟨a5, n5, c5⟩⟩ rfl rfl LN.out ?_; intro a6 n6 c6 w4 H4; have GN := Lib.hid (S3.out.boxP H4.out.2.1); have y2 : w4.frozen? ⟨bo, 5, none⟩ = false := frozen_of_row _ _ _ _ _ GN.out; have z2 : w4.cell? ⟨bo, 5, none⟩ = some (.slice a2 m2 c2) := by rw [cell_of_row w4 bo 5 _ _ _ GN.out]; rfl))
          all_goals
            have S5 := Lib.hid (S3.out.part (y := ⟨X, (tkAms (s2.text 8192).2).1, (tkAms (tkAms (s2.text 8192).2).2).1⟩) H4.out.1 H4.out.2.1 rfl O4.out O3.out)
            clear y2 z2 mA m9 q2 e2 f2 p2
            obtain ⟨W4, hW4⟩ : ∃ W4, w4.setCell ⟨bo, 5, none⟩ (.slice a6 n6 c6) = W4 := ⟨_, rfl⟩
            rw [hW4] at S5
            rw [hW4]
            clear hW4
            go_wp2_with fail
            go_roundg (np - (k + 1))
            case measure => have := R.out.1; omega
            case rel => exact ⟨k + 1, _, _, _, a6, n6, c6, by omega, rfl, by go_num, by have := R.out.2.1; simp; omega, by have := RD.out; rw [EX.out] at this; exact this, S5.out⟩
        · have E : acc = (tk6 s).1 ∧ s2 = (tk6 s).2 := by
            have := R.out.2.2
            rw [show np - k = 0 by omega, tkN, List.append_nil] at this
            exact ⟨by rw [← this], by rw [← this]⟩
          obtain ⟨PS, hPS⟩ : ∃ PS, PS = (tk6 s).1 := ⟨_, rfl⟩
          have T6 : Aside (TK w g bz bo (tk6 s).2 ⟨P1, N1, LS, V3, V4, PS, 0⟩ (.slice a m c) (.slice a2 m2 c2) rs wr) := by
            have := T.out; rw [E.1, E.2, ← hPS] at this; exact this
          have HPS := Lib.hid hPS
          clear E hPS T R
          go_wp2_with fail
          refine (T6.out.calls (rUint_any g _ wr T6.out.r)).mono ?_
          rintro e w8 ⟨rfl, hl⟩
          have hU6 := uint_lt (tk6 s).2
          obtain ⟨U6, hU6'⟩ : ∃ U6 : Nat, U6 = (tk6 s).2.uint.1 := ⟨_, rfl⟩
          rw [← hU6'] at hU6 ⊢
          obtain ⟨V6, hV6⟩ : ∃ V6 : Int, V6 = wrap64 (U6 : Int) := ⟨_, rfl⟩
          have HV6 : Hid (V6 = wrap64 ((tk6 s).2.uint.1 : Int)) := Lib.hid (by rw [hV6, hU6'])
          clear hU6'
          have d6 := hl.cells 6 _ rfl
          have y6 := hl.free 6
          have T7 : Aside (TK w g bz bo (tkE s) ⟨P1, N1, LS, V3, V4, PS, V6⟩ (.slice a m c) (.slice a2 m2 c2) rs (w8.setCell ⟨bo, 6, none⟩ (.int .i64 V6))) := hl.put (i := 6) rfl hl.l hl.p hl.q
          clear hl T6
          obtain ⟨W8, hW8⟩ : ∃ W8, w8.setCell ⟨bo, 6, none⟩ (.int .i64 V6) = W8 := ⟨_, rfl⟩
          rw [hW8] at T7
          have TZ : Hid (W8.heap[w.heap.size]? = some (.cells #[.string ⟨#[]⟩, .string ⟨#[]⟩, .slice none 0 0, .int .i64 0, .int .i64 0, .slice none 0 0, .int .i64 0] 25 (0, 0))) := Lib.hid (by rw [← HBZ.out]; exact T7.out.z)
          have k0 := T7.out.cells 0 _ rfl
          have k1 := T7.out.cells 1 _ rfl
          have k2 := T7.out.cells 2 _ rfl
          have k3 := T7.out.cells 3 _ rfl
          have k4 := T7.out.cells 4 _ rfl
          have k5 := T7.out.cells 5 _ rfl
          have k6 := T7.out.cells 6 _ rfl
          have ON : Hid ((#[.string P1, .string N1, .slice a m c, .int .i64 V3, .int .i64 V4, .slice a2 m2 c2, .int .i64 V6] : Array Value).all (·.oneCell') = true) := Lib.hid (by simp [Value.oneCell'])
          have EV : Aside (tkO s = ⟨P1, N1, LS, V3, V4, PS, V6⟩) := by
            show _ = _
            unfold tkO
            rw [← PN.out.1, ← PN.out.2, ← HLS.out, ← HPS.out, ← HV3.out, ← HV4.out, ← HV6.out]
          have hW8' := hW8
          rw [hV6] at hW8'
          rw [hV6] at ON k6
          clear hW8
          go_wp2_with (refine wpList_store_row rfl 25 (.tmp 2) (.tmp 53) rfl w.heap.size #[.string P1, .string N1, .slice a m c, .int .i64 V3, .int .i64 V4, .slice a2 m2 c2, .int .i64 (wrap64 (U6 : Int))] rfl rfl 25 #[.string ⟨#[]⟩, .string ⟨#[]⟩, .slice none 0 0, .int .i64 0, .int .i64 0, .slice none 0 0, .int .i64 0] TZ.out size_obj rfl ON.out ?_)
          have D := T7.out.done #[.string P1, .string N1, .slice a m c, .int .i64 V3, .int .i64 V4, .slice a2 m2 c2, .int .i64 (wrap64 (U6 : Int))]
          rw [HBZ.out] at D
          refine bodyPost_ret (results_cell_row rfl _ _ w.heap.size 25 #[.string P1, .string N1, .slice a m c, .int .i64 V3, .int .i64 V4, .slice a2 m2 c2, .int .i64 (wrap64 (U6 : Int))] (0, 0) _ rfl (setRow_heap _ _ _ _ _ _ TZ.out) Tryz.underlying25 rfl size_obj) rfl ?_
          exact ⟨.slice a m c, .slice a2 m2 c2, by rw [EV.out, hV6]; rfl, by rw [EV.out]; exact D.1, D.2.1, D.2.2⟩
end Go.Proofs.YtehgnbgbmicheaaGreatDoor
