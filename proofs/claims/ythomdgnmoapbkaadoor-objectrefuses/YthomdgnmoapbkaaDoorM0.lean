/-
  ObOa, ObOo, ObWa, ObBo, ObRg, ObRh, ObRf, ObWr, ObWs, ObOp, joined.
-/
import Derived.Test.YthomdgnmoapbkaaDoorObU
import Derived.RegionTactic
import Derived.Deep.RegionLaw
import Derived.Test.YthomdgnmoapbkaaDoorObSm
import Derived.Deep.RegionHeld3
import Derived.Test.YthomdgnmoapbkaaDoorObE
section S0
namespace Go.Proofs.YthomdgnmoapbkaaDoor
open Go.RowKit
set_option maxHeartbeats 4000000 in
set_option maxRecDepth 100000 in
theorem ownAmounts_any (v : Value) (l : List Am) (w : World) (hv : Row kAm w v l) (hl : l.length * 24 ≤ 140737488355328) :
    Calls Tryd.prog 17 #[v] w fun e w' => ∃ a n c, e = .returned (.slice a n c) ∧ OwnR kAm w.heap.size w' (.slice a n c) l ∧ Below w.heap.size w w' := by
  have V := Lib.hid hv
  obtain ⟨a, cap, rfl, hlc, hcm⟩ := hv.len
  unfold maxLen at hcm
  obtain ⟨n, hn⟩ : ∃ n, n = l.length := ⟨_, rfl⟩
  rw [← hn] at hlc hl V ⊢
  have HN := Lib.hid hn
  clear hv hn
  go_enter Tryd.func17, Tryd.ntmps17
  go_wp2_with fail
  go_loopg [3, 4] n (fun gg so si wr => ∃ (k : Nat) (a' : Option Addr) (m c : Nat), k ≤ n ∧ gg = n - k ∧ si = .int .i64 k ∧ so = .slice a' m c ∧ OwnR kAm w.heap.size wr (.slice a' m c) (l.take k) ∧ Below w.heap.size w wr)
  case atStart => exact ⟨0, none, 0, 0, Nat.zero_le _, rfl, rfl, rfl, OwnR.nil _ _ _, Below.refl _ _⟩
  case round =>
    obtain ⟨k, a', m, c, hk, hg, rfl, rfl, ho, hb⟩ := hrel
    have R : Aside (gk = n - k ∧ OwnR kAm w.heap.size wr (.slice a' m c) (l.take k) ∧ Below w.heap.size w wr) := ⟨hg, ho, hb⟩
    clear hg ho hb
    by_cases hlt : k < n
    · have hlt' : (k : Int) < (n : Int) := by omega
      obtain ⟨b, off, rfl, pc⟩ := (V.out.below R.out.2.2).at k (by rw [← HN.out]; exact hlt)
      have ST := Lib.hid (take_onez l k kAm.z (by rw [← HN.out]; exact hlt))
      obtain ⟨x, hx⟩ : ∃ x, x = l.getD k kAm.z := ⟨_, rfl⟩
      rw [← hx] at pc ST
      obtain ⟨xn, xv⟩ := x
      have c0 : wr.cell? ⟨b, off + k * 2, none⟩ = some (.string xn) := pc 0 _ rfl
      have c1 : wr.cell? ⟨b, off + k * 2 + 1, none⟩ = some (.int .i64 xv) := pc 1 _ rfl
      have LN : Hid (((l.take k).length + 1) * kAm.b ≤ 140737488355328) := Lib.hid (by rw [List.length_take]; show (min k l.length + 1) * 24 ≤ 140737488355328; omega)
      clear pc hx
      obtain ⟨acc, hacc⟩ : ∃ acc, acc = l.take k := ⟨_, rfl⟩
      rw [← hacc] at ST LN R
      clear hacc
      go_wp2_with (at_builtin; refine app_rowB okAm (gg := wr.heap.size) rfl _ _ rfl rfl R.out.2.1 R.out.2.2.size ⟨xn, xv⟩ ?hgg rfl rfl LN.out ?_)
      case hgg => simp
      intro v' w' h1 h2
      obtain ⟨a2, c2, rfl⟩ := h1.slice
      have A : Aside (OwnR kAm w.heap.size w' (.slice a2 (acc ++ [(⟨xn, xv⟩ : Am)]).length c2) (l.take (k + 1)) ∧ Below w.heap.size w w') := by
        refine ⟨?_, R.out.2.2.trans (grown_belowR h2 R.out.2.1 R.out.2.2.size)⟩
        rw [ST.out]; exact h1
      clear h1 h2
      go_wp2_with fail
      go_roundg (n - (k + 1))
      case measure => have := R.out.1; omega
      case rel => exact ⟨k + 1, a2, _, c2, by omega, rfl, by go_num, rfl, A.out.1, A.out.2⟩
    · have E : Aside (l.take k = l) := List.take_of_length_le (by rw [← HN.out]; omega)
      go_wp2_with fail
      go_ret
      exact ⟨a', m, c, rfl, by have := R.out.2.1; rw [E.out] at this; exact this, R.out.2.2⟩
end Go.Proofs.YthomdgnmoapbkaaDoor
end S0

section S1
namespace Go.Proofs.YthomdgnmoapbkaaDoor
open Go.RowKit
structure OO (w : World) (bp bz bo : Nat) (x : Ob) (u1 u2 vl vp : Value) (ls : List (ByteArray × ByteArray)) (rs : List Pr) (ps : List Pt) (W : World) : Prop where
  a : W.heap[bp]? = some (.cells #[.string x.p, .string x.n, u1, .int .i64 x.pr, .int .i64 x.dl, u2, .int .i64 x.ver] 25 (0, 0))
  z : W.heap[bz]? = some (.cells #[.string ⟨#[]⟩, .string ⟨#[]⟩, .slice none 0 0, .int .i64 0, .int .i64 0, .slice none 0 0, .int .i64 0] 25 (0, 0))
  o : W.heap[bo]? = some (.cells #[.string x.p, .string x.n, vl, .int .i64 x.pr, .int .i64 x.dl, vp, .int .i64 x.ver] 25 (0, 0))
  l : OwnR kLb w.heap.size W vl ls
  p : OwnR kPt w.heap.size W vp rs
  q : Nst w.heap.size W rs ps
  be : Below w.heap.size w W
  bs : w.heap.size ≤ bp ∧ w.heap.size ≤ bz ∧ w.heap.size ≤ bo ∧ bp ≠ bo ∧ bz ≠ bo
variable {w W W' : World} {bp bz bo : Nat} {x : Ob} {u1 u2 vl vp : Value} {ls : List (ByteArray × ByteArray)} {rs : List Pr} {ps : List Pt}
theorem OO.below (h : OO w bp bz bo x u1 u2 vl vp ls rs ps W) (hb : Below W.heap.size W W') : OO w bp bz bo x u1 u2 vl vp ls rs ps W' :=
  ⟨by rw [hb.block _ (lt_of_some h.a)]; exact h.a, by rw [hb.block _ (lt_of_some h.z)]; exact h.z, by rw [hb.block _ (lt_of_some h.o)]; exact h.o, h.l.below hb, h.p.below hb, ⟨h.q.1, fun k hk => ⟨(h.q.2 k hk).1, (h.q.2 k hk).2.1.below hb, (h.q.2 k hk).2.2.below hb⟩⟩, h.be.trans (hb.mono h.be.size), h.bs⟩
theorem OO.drew (h : OO w bp bz bo x u1 u2 vl vp ls rs ps W) : OO w bp bz bo x u1 u2 vl vp ls rs ps W.drew := h.below ⟨rfl, rfl, rfl, Nat.le_refl _, fun _ _ => rfl⟩
theorem OO.rows (h : OO w bp bz bo x u1 u2 vl vp ls rs ps W) {F : Nat → Prop} (hk : Kept F W W') (hF : ∀ k cs m, F k → W.heap[k]? ≠ some (.cells cs 25 m)) : W'.heap[bp]? = some (.cells #[.string x.p, .string x.n, u1, .int .i64 x.pr, .int .i64 x.dl, u2, .int .i64 x.ver] 25 (0, 0)) ∧ W'.heap[bz]? = some (.cells #[.string ⟨#[]⟩, .string ⟨#[]⟩, .slice none 0 0, .int .i64 0, .int .i64 0, .slice none 0 0, .int .i64 0] 25 (0, 0)) ∧ W'.heap[bo]? = some (.cells #[.string x.p, .string x.n, vl, .int .i64 x.pr, .int .i64 x.dl, vp, .int .i64 x.ver] 25 (0, 0)) :=
  ⟨by rw [hk.block _ (lt_of_some h.a) (fun e => hF _ _ _ e h.a)]; exact h.a, by rw [hk.block _ (lt_of_some h.z) (fun e => hF _ _ _ e h.z)]; exact h.z, by rw [hk.block _ (lt_of_some h.o) (fun e => hF _ _ _ e h.o)]; exact h.o⟩
theorem own_tb {α : Type} {K : Kd α} {B : Nat} {W : World} {v : Value} {l : List α} (h : OwnR K B W v l) (t : TypeId) (ht : t ≠ K.t) : ∀ k cs m, some k = v.ownBlock → W.heap[k]? ≠ some (.cells cs t m) := fun k cs m e q => by
  obtain ⟨cs', m', h'⟩ := h.ty k e.symm
  rw [h'] at q; simp only [Option.some.injEq, Obj.cells.injEq] at q; exact ht q.2.1.symm
theorem row_tb {W : World} {b : Nat} {c : Array Value} (h : W.heap[b]? = some (.cells c 25 (0, 0))) (t : TypeId) (ht : t ≠ 25) : ∀ k cs m, k = b → W.heap[k]? ≠ some (.cells cs t m) := fun k cs m e q => by
  rw [e, h] at q; simp only [Option.some.injEq, Obj.cells.injEq] at q; exact ht q.2.1.symm
theorem OO.label (h : OO w bp bz bo x u1 u2 vl vp ls rs ps W) {v' : Value} {y : ByteArray × ByteArray} (ho : OwnR kLb w.heap.size W' v' (ls ++ [y])) (hg : W.grownBy W' vl.ownBlock) : OO w bp bz bo x u1 u2 v' vp (ls ++ [y]) rs ps (W'.setCell ⟨bo, 2, none⟩ v') := by
  have hk := grown_kept hg
  obtain ⟨ga, gz, go⟩ := h.rows hk (own_tb h.l _ (by decide))
  have k2 : Kept (fun k => k = bo) W' (W'.setCell ⟨bo, 2, none⟩ v') := kept_set _ _ _ rfl
  have hb := h.bs
  have bW : Below w.heap.size w W' := h.be.trans (grown_belowR hg h.l h.be.size)
  exact ⟨by rw [k2.block bp (lt_of_some ga) (by omega)]; exact ga, by rw [k2.block bz (lt_of_some gz) (by omega)]; exact gz, by rw [Go.heap_setCell_same W' bo 2 _ _ _ go]; rfl, ho.kept_ty k2 (row_tb go _ (by decide)), (h.p.kept_ty hk (own_tb h.l _ (by decide))).kept_ty k2 (row_tb go _ (by decide)), (h.q.kept hk (own_tb h.l _ (by decide))).kept k2 (row_tb go _ (by decide)), bW.trans (k2.below bW.size (fun x hx => by omega)), h.bs⟩
theorem OO.part (h : OO w bp bz bo x u1 u2 vl vp ls rs ps W) {v' : Value} {r : Pr} {y : Pt} (ho : OwnR kPt w.heap.size W' v' (rs ++ [r])) (hg : W.grownBy W' vp.ownBlock) (h1 : r.n = y.n) (h2 : OwnR kAm w.heap.size W r.r.v y.r) (h3 : OwnR kAm w.heap.size W r.l.v y.l) : OO w bp bz bo x u1 u2 vl v' ls (rs ++ [r]) (ps ++ [y]) (W'.setCell ⟨bo, 5, none⟩ v') := by
  have hk := grown_kept hg
  obtain ⟨ga, gz, go⟩ := h.rows hk (own_tb h.p _ (by decide))
  have k2 : Kept (fun k => k = bo) W' (W'.setCell ⟨bo, 5, none⟩ v') := kept_set _ _ _ rfl
  have hb := h.bs
  have bW : Below w.heap.size w W' := h.be.trans (grown_belowR hg h.p h.be.size)
  exact ⟨by rw [k2.block bp (lt_of_some ga) (by omega)]; exact ga, by rw [k2.block bz (lt_of_some gz) (by omega)]; exact gz, by rw [Go.heap_setCell_same W' bo 5 _ _ _ go]; rfl, (h.l.kept_ty hk (own_tb h.p _ (by decide))).kept_ty k2 (row_tb go _ (by decide)), ho.kept_ty k2 (row_tb go _ (by decide)), ((h.q.add h1 h2 h3).kept hk (own_tb h.p _ (by decide))).kept k2 (row_tb go _ (by decide)), bW.trans (k2.below bW.size (fun x hx => by omega)), h.bs⟩
theorem OO.done (h : OO w bp bz bo x u1 u2 vl vp ls rs ps W) (cs : Array Value) : (∃ r, OwnR kLb w.heap.size (W.setRow bz cs) vl ls ∧ OwnR kPt w.heap.size (W.setRow bz cs) vp r ∧ Nst w.heap.size (W.setRow bz cs) r ps) ∧ Below w.heap.size w (W.setRow bz cs) := by
  have hk := kept_setRow W bz cs
  have hb := h.bs
  exact ⟨⟨rs, h.l.kept_ty hk (row_tb h.z _ (by decide)), h.p.kept_ty hk (row_tb h.z _ (by decide)), h.q.kept hk (row_tb h.z _ (by decide))⟩, h.be.trans (hk.below h.be.size (fun x hx => by omega))⟩
theorem step_own {ops : Array Oper} {o : Oper} {a : Act} {K : Act → World → Prop} {Q : Exit → Act → World → Prop} {E : Prop} (hgd : o.guard = none) (y : Operand) (ts : Array TypeId)
    (ho : o.op = .call { callee := .value (.func 17), args := #[y], argTypes := ts }) (v : Value) (l : List Am) (W : World) (hy : a.eval y = v) (hr : Row kAm W v l) (hl : l.length * 24 ≤ 140737488355328)
    (h : ∀ a1 n1 c1 w1, Hid (OwnR kAm W.heap.size w1 (.slice a1 n1 c1) l ∧ Below W.heap.size W w1) → K (a.put o.dst (.slice a1 n1 c1)) w1) :
    if Region.wanted o (yielded ops a.tmps) = true then Oper.wp Tryd.prog o a W K Q else E := by
  refine step_call (P := fun V w1 => ∃ a1 n1 c1, V = .slice a1 n1 c1 ∧ OwnR kAm W.heap.size w1 (.slice a1 n1 c1) l ∧ Below W.heap.size W w1) (enters _ _ Tryd.func17 (by kernel_rfl) (by kernel_rfl)) hgd y ts ho hy ((ownAmounts_any v l W hr hl).mono fun _ _ q => ?_) ?_
  · obtain ⟨a1, n1, c1, rfl, q2⟩ := q
    exact ⟨_, rfl, a1, n1, c1, rfl, q2⟩
  · rintro V w1 hp
    obtain ⟨a1, n1, c1, rfl, q2⟩ := hp.out
    exact h a1 n1 c1 w1 (Lib.hid q2)
end Go.Proofs.YthomdgnmoapbkaaDoor
end S1

section S2
namespace Go.Proofs.YthomdgnmoapbkaaDoor
open Go.RowKit
def boxc (x : Ob) (vl vp : Value) : Array Value := #[.string x.p, .string x.n, vl, .int .i64 x.pr, .int .i64 x.dl, vp, .int .i64 x.ver]
structure WO (w : World) (bo : Nat) (x : Ob) (vl vp : Value) (rs : List Pr) (W : World) : Prop where
  z : W.heap[w.heap.size]? = some (.cells #[.string ⟨#[]⟩, .string ⟨#[]⟩, .slice none 0 0, .int .i64 0, .int .i64 0, .slice none 0 0, .int .i64 0] 25 (0, 0))
  o : W.heap[bo]? = some (.cells (boxc x vl vp) 25 (0, 0))
  l : OwnR kLb (w.heap.size + 1) W vl x.ls
  p : OwnR kPt (w.heap.size + 1) W vp rs
  q : Nst (w.heap.size + 1) W rs x.ps
  be : Below w.heap.size w W
  bs : w.heap.size + 1 ≤ bo
variable {w W W' : World} {bo : Nat} {x : Ob} {vl vp : Value} {rs : List Pr}
theorem WO.below (h : WO w bo x vl vp rs W) (hb : Below W.heap.size W W') : WO w bo x vl vp rs W' :=
  ⟨by rw [hb.block _ (lt_of_some h.z)]; exact h.z, by rw [hb.block _ (lt_of_some h.o)]; exact h.o, h.l.below hb, h.p.below hb, ⟨h.q.1, fun k hk => ⟨(h.q.2 k hk).1, (h.q.2 k hk).2.1.below hb, (h.q.2 k hk).2.2.below hb⟩⟩, h.be.trans (hb.mono h.be.size), h.bs⟩
/-- A cell of the box is set. -/
theorem WO.into (h : WO w bo x vl vp rs W) (i : Nat) (u : Value) {x' : Ob} {vl' vp' : Value} {rs' : List Pr} (he : (boxc x vl vp).setIfInBounds i u = boxc x' vl' vp') (hl : OwnR kLb (w.heap.size + 1) W vl' x'.ls) (hp : OwnR kPt (w.heap.size + 1) W vp' rs') (hq : Nst (w.heap.size + 1) W rs' x'.ps) : WO w bo x' vl' vp' rs' (W.setCell ⟨bo, i, none⟩ u) := by
  have k2 : Kept (fun k => k = bo) W (W.setCell ⟨bo, i, none⟩ u) := kept_set _ _ _ rfl
  have hb := h.bs
  exact ⟨by rw [k2.block _ (lt_of_some h.z) (by omega)]; exact h.z, by rw [Go.heap_setCell_same W bo i _ _ _ h.o, he], hl.kept_ty k2 (row_tb h.o _ (by decide)), hp.kept_ty k2 (row_tb h.o _ (by decide)), hq.kept k2 (row_tb h.o _ (by decide)), h.be.trans (k2.below h.be.size (fun x hx => by omega)), h.bs⟩
/-- The box behind an append to the parts. -/
theorem WO.grown (h : WO w bo x vl vp rs W) (hg : W.grownBy W' vp.ownBlock) : W'.heap[bo]? = some (.cells (boxc x vl vp) 25 (0, 0)) := by
  rw [(grown_kept hg).block _ (lt_of_some h.o) (fun e => own_tb h.p _ (by decide) _ _ _ e h.o)]; exact h.o
theorem WO.part (h : WO w bo x vl vp rs W) {v' : Value} {r : Pr} {y : Pt} (ho : OwnR kPt (w.heap.size + 1) W' v' (rs ++ [r])) (hg : W.grownBy W' vp.ownBlock) (h1 : r.n = y.n) (h2 : OwnR kAm (w.heap.size + 1) W r.r.v y.r) (h3 : OwnR kAm (w.heap.size + 1) W r.l.v y.l) : WO w bo { x with ps := x.ps ++ [y] } vl v' (rs ++ [r]) (W'.setCell ⟨bo, 5, none⟩ v') := by
  have hk := grown_kept hg
  have hb := h.bs
  have bW : Below w.heap.size w W' := h.be.trans ((grown_belowR hg h.p (by have := lt_of_some h.o; omega)).mono (Nat.le_succ _))
  have H : WO w bo x vl vp rs W → WO w bo { x with ps := x.ps ++ [y] } vl v' (rs ++ [r]) (W'.setCell ⟨bo, 5, none⟩ v') := fun _ => by
    have k2 : Kept (fun k => k = bo) W' (W'.setCell ⟨bo, 5, none⟩ v') := kept_set _ _ _ rfl
    have go := h.grown hg
    exact ⟨by rw [k2.block _ (Nat.lt_of_lt_of_le (lt_of_some h.z) hk.size) (by omega), hk.block _ (lt_of_some h.z) (fun e => own_tb h.p _ (by decide) _ _ _ e h.z)]; exact h.z, by rw [Go.heap_setCell_same W' bo 5 _ _ _ go]; rfl, (h.l.kept_ty hk (own_tb h.p _ (by decide))).kept_ty k2 (row_tb go _ (by decide)), ho.kept_ty k2 (row_tb go _ (by decide)), ((h.q.add h1 h2 h3).kept hk (own_tb h.p _ (by decide))).kept k2 (row_tb go _ (by decide)), bW.trans (k2.below bW.size (fun x hx => by omega)), h.bs⟩
  exact H h
/-- A cell of a row of the call's own is set. -/
theorem own_setc {α : Type} {K : Kd α} {B : Nat} {W : World} {g n c : Nat} {l l' : List α} (H : OwnR K B W (.slice (some ⟨g, 0, none⟩) n c) l) (j : Nat) (u : Value) (hl : l'.length = l.length) (hc : cellsR K l' = (cellsR K l).set j u) : OwnR K B (W.setCell ⟨g, j, none⟩ u) (.slice (some ⟨g, 0, none⟩) n c) l' := by
  obtain ⟨h1, ⟨hv, _⟩ | ⟨g', cap, cur, hv, hB, hg, hn, hm, hs, ht⟩⟩ := H
  · simp at hv
  · simp only [Value.slice.injEq, Option.some.injEq, Addr.mk.injEq, and_true] at hv
    obtain ⟨rfl, rfl, rfl⟩ := hv
    unfold OwnR World.ownsRow
    rw [hl, hc]
    refine ⟨by rw [List.length_set]; exact h1, .inr ⟨g, c, cur.setIfInBounds j u, rfl, hB, ?_, hn, hm, by simpa using hs, ?_⟩⟩
    · rw [Go.heap_setCell_same W g j _ _ _ hg]
    · rw [Array.toList_setIfInBounds, List.take_set, ht]
/-- A cell of a part is set. -/
theorem WO.elem {g n c : Nat} (h : WO w bo x vl (.slice (some ⟨g, 0, none⟩) n c) rs W) (j : Nat) (u : Value) {rs' : List Pr} {ps' : List Pt} (hl : rs'.length = rs.length) (hc : cellsR kPt rs' = (cellsR kPt rs).set j u) (hq : Nst (w.heap.size + 1) W rs' ps') : WO w bo { x with ps := ps' } vl (.slice (some ⟨g, 0, none⟩) n c) rs' (W.setCell ⟨g, j, none⟩ u) := by
  have k2 : Kept (fun k => k = g) W (W.setCell ⟨g, j, none⟩ u) := kept_set _ _ _ rfl
  have hb := h.bs
  have gl := h.p.lt g rfl
  have tb : ∀ (t : TypeId), t ≠ kPt.t → ∀ k cs m, k = g → W.heap[k]? ≠ some (.cells cs t m) := fun t ht k cs m e q => own_tb h.p t ht k cs m (by rw [e]; rfl) q
  exact ⟨by rw [k2.block _ (lt_of_some h.z) (by omega)]; exact h.z, by rw [k2.block _ (lt_of_some h.o) (fun e => tb _ (by decide) _ _ _ e h.o)]; exact h.o, h.l.kept_ty k2 (tb _ (by decide)), own_setc h.p j u hl hc, hq.kept k2 (tb _ (by decide)), h.be.trans (k2.below h.be.size (fun x hx => by omega)), h.bs⟩
theorem WO.done (h : WO w bo x vl vp rs W) (cs : Array Value) : ObV (W.setRow w.heap.size cs) vl vp x ∧ Below w.heap.size w (W.setRow w.heap.size cs) := by
  have hk := kept_setRow W w.heap.size cs
  have O : ObO (w.heap.size + 1) W vl vp x := ⟨rs, h.l, h.p, h.q⟩
  exact ⟨(O.kept hk (fun k e => by omega)).obv, h.be.trans (hk.below h.be.size (fun x hx => by omega))⟩
theorem WO.start (w : World) {W1 X : World} {bo : Nat} {vl vp : Value} {x : Ob} (hX0 : Below w.heap.size w (w.alloc (.cells #[.string ⟨#[]⟩, .string ⟨#[]⟩, .slice none 0 0, .int .i64 0, .int .i64 0, .slice none 0 0, .int .i64 0] 25))) (ho : ObO (w.alloc (.cells #[.string ⟨#[]⟩, .string ⟨#[]⟩, .slice none 0 0, .int .i64 0, .int .i64 0, .slice none 0 0, .int .i64 0] 25)).heap.size W1 vl vp x) (hb : Below (w.alloc (.cells #[.string ⟨#[]⟩, .string ⟨#[]⟩, .slice none 0 0, .int .i64 0, .int .i64 0, .slice none 0 0, .int .i64 0] 25)).heap.size (w.alloc (.cells #[.string ⟨#[]⟩, .string ⟨#[]⟩, .slice none 0 0, .int .i64 0, .int .i64 0, .slice none 0 0, .int .i64 0] 25)) W1) (hX : X = W1.alloc (.cells (boxc x vl vp) 25)) (hbo : bo = W1.heap.size) : ∃ rs, WO w bo x vl vp rs X := by
  obtain ⟨rs, h1, h2, h3⟩ := ho
  have s0 : (w.alloc (.cells #[.string ⟨#[]⟩, .string ⟨#[]⟩, .slice none 0 0, .int .i64 0, .int .i64 0, .slice none 0 0, .int .i64 0] 25)).heap.size = w.heap.size + 1 := by simp
  have AX : Below W1.heap.size W1 X := by rw [hX]; exact (Below.refl _ _).alloc (Nat.le_refl _) _
  rw [s0] at h1 h2 h3
  have sz := hb.size
  rw [s0] at sz
  refine ⟨rs, ?_, by rw [hX, hbo, heap_alloc_new], h1.below AX, h2.below AX, ⟨h3.1, fun k hk => ⟨(h3.2 k hk).1, (h3.2 k hk).2.1.below AX, (h3.2 k hk).2.2.below AX⟩⟩, (hX0.trans (hb.mono hX0.size)).trans (AX.mono (by omega)), by omega⟩
  rw [AX.block _ (by omega), hb.block _ (by omega), heap_alloc_new]
end Go.Proofs.YthomdgnmoapbkaaDoor
end S2

section S3
namespace Go.Proofs.YthomdgnmoapbkaaDoor
open Go.RowKit
structure BO (B bo : Nat) (x : Ob) (vl vp : Value) (rs : List Pr) (W : World) : Prop where
  o : W.heap[bo]? = some (.cells (boxc x vl vp) 25 (0, 0))
  l : OwnR kLb B W vl x.ls
  p : OwnR kPt B W vp rs
  q : Nst B W rs x.ps
  bs : B ≤ bo
variable {W W' : World} {B bo : Nat} {x : Ob} {vl vp : Value} {rs : List Pr}
theorem BO.below (h : BO B bo x vl vp rs W) (hb : Below W.heap.size W W') : BO B bo x vl vp rs W' :=
  ⟨by rw [hb.block _ (lt_of_some h.o)]; exact h.o, h.l.below hb, h.p.below hb, ⟨h.q.1, fun k hk => ⟨(h.q.2 k hk).1, (h.q.2 k hk).2.1.below hb, (h.q.2 k hk).2.2.below hb⟩⟩, h.bs⟩
theorem BO.start {X : World} (ho : ObO B W vl vp x) (hB : B ≤ W.heap.size) (hX : X = W.alloc (.cells (boxc x vl vp) 25)) (hbo : bo = W.heap.size) : ∃ rs, BO B bo x vl vp rs X := by
  obtain ⟨rs, h1, h2, h3⟩ := ho
  have AX : Below W.heap.size W X := by rw [hX]; exact (Below.refl _ _).alloc (Nat.le_refl _) _
  exact ⟨rs, by rw [hX, hbo, heap_alloc_new], h1.below AX, h2.below AX, ⟨h3.1, fun k hk => ⟨(h3.2 k hk).1, (h3.2 k hk).2.1.below AX, (h3.2 k hk).2.2.below AX⟩⟩, by omega⟩
theorem BO.obv (h : BO B bo x vl vp rs W) : ObV W vl vp x := by
  have O : ObO B W vl vp x := ⟨rs, h.l, h.p, h.q⟩
  exact O.obv
theorem BO.grownP (h : BO B bo x vl vp rs W) (hg : W.grownBy W' vp.ownBlock) : W'.heap[bo]? = some (.cells (boxc x vl vp) 25 (0, 0)) := by
  rw [(grown_kept hg).block _ (lt_of_some h.o) (fun e => own_tb h.p _ (by decide) _ _ _ e h.o)]; exact h.o
theorem BO.part (h : BO B bo x vl vp rs W) {v' : Value} {r : Pr} {y : Pt} (ho : OwnR kPt B W' v' (rs ++ [r])) (hg : W.grownBy W' vp.ownBlock) (h1 : r.n = y.n) (h2 : OwnR kAm B W r.r.v y.r) (h3 : OwnR kAm B W r.l.v y.l) : BO B bo { x with ps := x.ps ++ [y] } vl v' (rs ++ [r]) (W'.setCell ⟨bo, 5, none⟩ v') ∧ Below B W (W'.setCell ⟨bo, 5, none⟩ v') := by
  have hk := grown_kept hg
  have hb := h.bs
  have lt := lt_of_some h.o
  have bW : Below B W W' := grown_belowR hg h.p (by omega)
  have k2 : Kept (fun k => k = bo) W' (W'.setCell ⟨bo, 5, none⟩ v') := kept_set _ _ _ rfl
  have go := h.grownP hg
  exact ⟨⟨by rw [Go.heap_setCell_same W' bo 5 _ _ _ go]; rfl, (h.l.kept_ty hk (own_tb h.p _ (by decide))).kept_ty k2 (row_tb go _ (by decide)), ho.kept_ty k2 (row_tb go _ (by decide)), ((h.q.add h1 h2 h3).kept hk (own_tb h.p _ (by decide))).kept k2 (row_tb go _ (by decide)), h.bs⟩, bW.trans (k2.below (by have := bW.size; omega) (fun x hx => by omega))⟩
theorem BO.grownL (h : BO B bo x vl vp rs W) (hg : W.grownBy W' vl.ownBlock) : W'.heap[bo]? = some (.cells (boxc x vl vp) 25 (0, 0)) := by
  rw [(grown_kept hg).block _ (lt_of_some h.o) (fun e => own_tb h.l _ (by decide) _ _ _ e h.o)]; exact h.o
theorem BO.label (h : BO B bo x vl vp rs W) {v' : Value} {y : ByteArray × ByteArray} (ho : OwnR kLb B W' v' (x.ls ++ [y])) (hg : W.grownBy W' vl.ownBlock) : BO B bo { x with ls := x.ls ++ [y] } v' vp rs (W'.setCell ⟨bo, 2, none⟩ v') ∧ Below B W (W'.setCell ⟨bo, 2, none⟩ v') := by
  have hk := grown_kept hg
  have hb := h.bs
  have lt := lt_of_some h.o
  have bW : Below B W W' := grown_belowR hg h.l (by omega)
  have k2 : Kept (fun k => k = bo) W' (W'.setCell ⟨bo, 2, none⟩ v') := kept_set _ _ _ rfl
  have go := h.grownL hg
  exact ⟨⟨by rw [Go.heap_setCell_same W' bo 2 _ _ _ go]; rfl, ho.kept_ty k2 (row_tb go _ (by decide)), (h.p.kept_ty hk (own_tb h.l _ (by decide))).kept_ty k2 (row_tb go _ (by decide)), (h.q.kept hk (own_tb h.l _ (by decide))).kept k2 (row_tb go _ (by decide)), h.bs⟩, bW.trans (k2.below (by have := bW.size; omega) (fun x hx => by omega))⟩
theorem BO.path (h : BO B bo x vl vp rs W) (t : ByteArray) : BO B bo { x with p := t } vl vp rs (W.setCell ⟨bo, 0, none⟩ (.string t)) ∧ Below B W (W.setCell ⟨bo, 0, none⟩ (.string t)) := by
  have hb := h.bs
  have lt := lt_of_some h.o
  have k2 : Kept (fun k => k = bo) W (W.setCell ⟨bo, 0, none⟩ (.string t)) := kept_set _ _ _ rfl
  exact ⟨⟨by rw [Go.heap_setCell_same W bo 0 _ _ _ h.o]; rfl, h.l.kept_ty k2 (row_tb h.o _ (by decide)), h.p.kept_ty k2 (row_tb h.o _ (by decide)), h.q.kept k2 (row_tb h.o _ (by decide)), h.bs⟩, k2.below (by omega) (fun x hx => by omega)⟩
structure RK (w : World) (co : Array Value) (W : World) : Prop where
  o : W.heap[w.heap.size]? = some (.cells co 25 (0, 0))
  be : Below w.heap.size w W
theorem RK.below {w : World} {co : Array Value} (h : RK w co W) (hb : Below W.heap.size W W') : RK w co W' := ⟨by rw [hb.block _ (lt_of_some h.o)]; exact h.o, h.be.trans (hb.mono h.be.size)⟩
theorem RK.over {w : World} {co : Array Value} {W0 : World} (h0 : RK w co W0) (hb : Below W0.heap.size W0 W) : RK w co W := h0.below hb
end Go.Proofs.YthomdgnmoapbkaaDoor
end S3

section S4
namespace Go.Proofs.YthomdgnmoapbkaaDoor
open Go Go.RowKit
section
variable {P : Program} {ops : Array Oper} {Q : Exit → Act → World → Prop} {md : Region.Mode} {S0 S1 : World → Prop} {h i : Nat} {oi : Oper} {v : Value}
def wpTwo (P : Program) (md : Region.Mode) (ops : Array Oper) (Q : Exit → Act → World → Prop) (S0 S1 : World → Prop) (h : Nat) : Nat → Array Bool → Act → World → Prop
  | 0, l, a, w => Region.ready md ops l = [] ∧ Q .normal a w
  | n + 1, l, a, w => (Region.ready md ops l = [] → Q .normal a w) ∧
    ∀ j ∈ Region.ready md ops l, wpOp P ops Q j (fun a' w' => (S0 w' ∧ ((l.setIfInBounds j true).getD h true = false → S1 w')) ∧ wpTwo P md ops Q S0 S1 h n (l.setIfInBounds j true) a' w') a w
theorem two_any : ∀ (n : Nat) (l : Array Bool) (a : Act) (w : World), wpTwo P md ops Q S0 S1 h n l a w → wpAny P md ops Q n l a w := by
  intro n
  induction n with
  | zero => exact fun l a w q => q
  | succ n ih => exact fun l a w q => ⟨q.1, fun j hj => wpOp_mono (fun a' w' r => ih _ a' w' r.2) (q.2 j hj)⟩
theorem two_first {I : Array Bool → Prop} {S' : World → Prop} (hi : ops[i]? = some oi) (hsel : Region.noSelect ops = true) (hQ : ∀ c a w, Q (.panic c) (a.put oi.dst v) w → Q (.panic c) a w) (hne : h ≠ i)
    (step : ∀ l j, I l → i ∈ Region.ready md ops l → j ∈ Region.ready md ops l → j ≠ i → I (l.setIfInBounds j true) ∧ ∀ w, S0 w → (((l.setIfInBounds i true).setIfInBounds j true).getD h true = false → S1 w) → S' w) :
    ∀ (n : Nat) (l : Array Bool) (a : Act) (w : World), (∀ j oj, ops[j]? = some oj → j ≠ i → l.getD j true = false → (∀ e ∈ oj.after, Region.binds md e = true → e.on ≠ i) → oi.apart ops oj = true) →
      I l → i ∈ Region.ready md ops l → YieldsIf P ops S' oi v a → S' w → (S0 w ∧ (l.getD h true = false → S1 w)) →
      wpTwo P md ops Q S0 S1 h n (l.setIfInBounds i true) (a.put oi.dst v) w → wpTwo P md ops Q S0 S1 h (n + 1) l a w := by
  intro n
  induction n with
  | zero =>
    intro l a w _ hI hr hy hS hB H
    refine ⟨fun q => (by rw [q] at hr; cases hr), fun j hj => ?_⟩
    rcases Classical.em (j = i) with e | e
    · rw [e]; exact hy.wpOp hi hS ⟨⟨hB.1, fun q => hB.2 (by rw [getD_set_ne true (Ne.symm hne)] at q; exact q)⟩, H⟩
    · have q := ready_mono (i := i) hj e
      rw [H.1] at q
      cases q
  | succ n ih =>
    intro l a w hfree hI hr hy hS hB H
    refine ⟨fun q => (by rw [q] at hr; cases hr), fun j hj => ?_⟩
    rcases Classical.em (j = i) with e | e
    · rw [e]; exact hy.wpOp hi hS ⟨⟨hB.1, fun q => hB.2 (by rw [getD_set_ne true (Ne.symm hne)] at q; exact q)⟩, H⟩
    · obtain ⟨un, oj, hoj, all⟩ := mem_ready.1 hj
      have nw : ∀ d ∈ oj.after, Region.binds md d = true → d.on ≠ i := by
        intro d hd hb q
        have c1 := all d hd hb
        have c0 := (mem_ready.1 hr).1
        rw [q] at c1
        rcases Nat.lt_or_ge i l.size with z | z
        · simp [z] at c0 c1; rw [c0] at c1; cases c1
        · simp [Array.getElem?_eq_none z] at c1
      have swap := wpOp_putIf (S := S') hoj (hfree j oj hoj e un nw) (fun cs b => Region.noSelect_spec hsel i oi cs b hi) (fun cs b => Region.noSelect_spec hsel j oj cs b hoj) hQ hy (H.2 j (ready_mono hj e))
      refine wpOp_mono (fun a' w' r => ?_) swap
      obtain ⟨y', ⟨s0, s1⟩, H'⟩ := r
      have st := step l j hI hr hj e
      have c9 : (l.setIfInBounds j true).getD h true = false → S1 w' := fun q => s1 (by
        rw [Array.setIfInBounds_comm _ _ (Ne.symm e), getD_set_ne true (Ne.symm hne)]; exact q)
      refine ⟨⟨s0, c9⟩, ih (l.setIfInBounds j true) a' w' ?_ st.1 (ready_mono hr (Ne.symm e)) y' (st.2 w' s0 s1) ⟨s0, c9⟩ ?_⟩
      · intro k ok hk hki hun hno
        refine hfree k ok hk hki ?_ hno
        rcases Classical.em (j = k) with z | z
        · rw [← z]; exact un
        · rw [getD_set_ne true z] at hun; exact hun
      · rw [Array.setIfInBounds_comm _ _ e]; exact H'
/-- Take an operation that yields in every world that meets S0. -/
theorem two_take0 {n : Nat} {l : Array Bool} {a : Act} {w : World} (hi : ops[i]? = some oi) (hs : Region.noSelect ops = true) (hf : Region.free md ops l i = true) (hr : (Region.ready md ops l).contains i = true) (hne : (h == i) = false)
    (hQ : ∀ c a w, Q (.panic c) (a.put oi.dst v) w → Q (.panic c) a w) (hy : YieldsIf P ops S0 oi v a) (hB : S0 w ∧ (l.getD h true = false → S1 w))
    (H : wpTwo P md ops Q S0 S1 h n (l.setIfInBounds i true) (a.put oi.dst v) w) : wpTwo P md ops Q S0 S1 h (n + 1) l a w :=
  two_first (I := fun _ => True) (S' := S0) hi hs hQ (by simpa using hne) (fun _ _ _ _ _ _ => ⟨trivial, fun _ q _ => q⟩) n l a w (Region.free_spec hi hf) trivial (by simpa using hr) hy hB.1 hB H
/-- Take a load that yields till h comes up, which waits for it. -/
theorem two_take1 {n : Nat} {l : Array Bool} {a : Act} {w : World} (oh : Oper) (hi : ops[i]? = some oi) (hs : Region.noSelect ops = true) (hf : Region.free md ops l i = true) (hr : (Region.ready md ops l).contains i = true) (hne : (h == i) = false)
    (hh : ops[h]? = some oh) (hd : oh.after.any (fun e => Region.binds md e && e.on == i) = true) (hl : l.getD h true = false)
    (hQ : ∀ c a w, Q (.panic c) (a.put oi.dst v) w → Q (.panic c) a w) (hy : YieldsIf P ops S1 oi v a) (hB : S0 w ∧ (l.getD h true = false → S1 w))
    (H : wpTwo P md ops Q S0 S1 h n (l.setIfInBounds i true) (a.put oi.dst v) w) : wpTwo P md ops Q S0 S1 h (n + 1) l a w := by
  have hn : h ≠ i := by simpa using hne
  refine two_first (I := fun l => l.getD h true = false) (S' := S1) hi hs hQ hn (fun l j hI hri hj e => ?_) n l a w (Region.free_spec hi hf) hl (by simpa using hr) hy (hB.2 hl) hB H
  have jh : j ≠ h := by
    intro q
    obtain ⟨un, oj, hoj, all⟩ := mem_ready.1 hj
    rw [q, hh] at hoj
    obtain rfl := Option.some.inj hoj
    obtain ⟨k, hk, hb⟩ := Array.any_eq_true.1 hd
    have hm : oh.after[k] ∈ oh.after := Array.getElem_mem hk
    simp only [Bool.and_eq_true, beq_iff_eq] at hb
    have c1 := all _ hm hb.1
    have c0 := (mem_ready.1 hri).1
    rw [hb.2] at c1
    rcases Nat.lt_or_ge i l.size with z | z
    · simp [z] at c0 c1; rw [c0] at c1; cases c1
    · simp [Array.getElem?_eq_none z] at c1
  have g1 : (l.setIfInBounds j true).getD h true = false := by rw [getD_set_ne true jh]; exact hI
  refine ⟨g1, fun w _ q => q ?_⟩
  rw [Array.setIfInBounds_comm _ _ (Ne.symm e), getD_set_ne true (Ne.symm hn)]; exact g1
/-- One alone may come up. -/
theorem two_one {n : Nat} {l : Array Bool} {a : Act} {w : World} {j : Nat} {o : Oper} (hr : Region.ready md ops l = [j]) (ho : ops[j]? = some o)
    (H : ∀ K : Act → World → Prop, Shut (∀ a' w', (S0 w' ∧ ((l.setIfInBounds j true).getD h true = false → S1 w')) → wpTwo P md ops Q S0 S1 h n (l.setIfInBounds j true) a' w' → K a' w') → if Region.wanted o (yielded ops a.tmps) = true then Oper.wp P o a w K Q else K (a.put o.dst undef) w) :
    wpTwo P md ops Q S0 S1 h (n + 1) l a w :=
  ⟨fun q => (by rw [q] at hr; cases hr), fun k hk => by
    rw [hr, List.mem_singleton] at hk
    subst hk
    exact wpOp_step ho (fun K hK => H K (fun a' w' q r => hK a' w' ⟨q, r⟩))⟩
theorem two_done {l : Array Bool} {a : Act} {w : World} (hr : Region.ready md ops l = []) (H : Q .normal a w) : ∀ n, wpTwo P md ops Q S0 S1 h n l a w
  | 0 => ⟨hr, H⟩
  | _ + 1 => ⟨fun _ => H, by rw [hr]; simp⟩
theorem region_two {id : Nat} {a : Act} {w : World} (S0 S1 : World → Prop) (h : Nat) (hm : P.follows .mixedOrders = true) (H : wpTwo P .any ops Q S0 S1 h ops.size (Array.replicate ops.size false) a w.drew) : (Code.region id ops true).wp P Q a w :=
  wp_region_any hm (two_any _ _ _ _ H)
end
end Go.Proofs.YthomdgnmoapbkaaDoor
end S4

section S5
namespace Go.Proofs.YthomdgnmoapbkaaDoor
open Go Go.RowKit
section
variable {P : Program} {ops : Array Oper} {Q : Exit → Act → World → Prop} {md : Region.Mode} {S0 S1 : World → Prop} {h i : Nat} {oi : Oper} {v : Value}
def waits (md : Region.Mode) (ops : Array Oper) (i k : Nat) : Bool := ((ops[k]?).map fun o => o.after.any fun e => Region.binds md e && e.on == i).getD false
def chained (md : Region.Mode) (ops : Array Oper) : Nat → List Nat → Bool
  | _, [] => true
  | i, k :: r => waits md ops i k && chained md ops k r
theorem waits_not {i k : Nat} {l : Array Bool} (hw : waits md ops i k = true) (hl : l.getD i true = false) : k ∉ Region.ready md ops l := by
  intro hj
  obtain ⟨un, oj, hoj, all⟩ := mem_ready.1 hj
  unfold waits at hw
  rw [hoj] at hw
  simp only [Option.map_some, Option.getD_some] at hw
  obtain ⟨m, hk, hb⟩ := Array.any_eq_true.1 hw
  have hm : oj.after[m] ∈ oj.after := Array.getElem_mem hk
  simp only [Bool.and_eq_true, beq_iff_eq] at hb
  have c1 := all _ hm hb.1
  rw [hb.2] at c1
  rcases Nat.lt_or_ge i l.size with z | z
  · simp [z] at hl c1; rw [hl] at c1; cases c1
  · simp [Array.getElem?_eq_none z] at c1
theorem chained_not : ∀ (ks : List Nat) (i : Nat) (l : Array Bool), chained md ops i ks = true → l.getD i true = false → (∀ k ∈ ks, l.getD k true = false) → ∀ k ∈ ks, k ∉ Region.ready md ops l := by
  intro ks
  induction ks with
  | nil => intro i l _ _ _ k hk; cases hk
  | cons m r ih =>
    intro i l hc hl ha k hk
    simp only [chained, Bool.and_eq_true] at hc
    rcases List.mem_cons.1 hk with rfl | hk
    · exact waits_not hc.1 hl
    · exact ih m l hc.2 (ha m (List.mem_cons_self ..)) (fun q hq => ha q (List.mem_cons_of_mem _ hq)) k hk
theorem two_takeC {n : Nat} {l : Array Bool} {a : Act} {w : World} (ks : List Nat) (hi : ops[i]? = some oi) (hs : Region.noSelect ops = true) (hf : Region.free md ops l i = true) (hr : (Region.ready md ops l).contains i = true) (hne : (h == i) = false)
    (hh : ks.contains h = true) (hd : chained md ops i ks = true) (hl : (ks.all fun k => !(l.getD k true)) = true)
    (hQ : ∀ c a w, Q (.panic c) (a.put oi.dst v) w → Q (.panic c) a w) (hy : YieldsIf P ops S1 oi v a) (hB : S0 w ∧ (l.getD h true = false → S1 w))
    (H : wpTwo P md ops Q S0 S1 h n (l.setIfInBounds i true) (a.put oi.dst v) w) : wpTwo P md ops Q S0 S1 h (n + 1) l a w := by
  have hn : h ≠ i := by simpa using hne
  have hm : h ∈ ks := by simpa using hh
  have hl' : ∀ k ∈ ks, l.getD k true = false := fun k hk => by have := List.all_eq_true.1 hl k hk; simpa using this
  refine two_first (I := fun l => ∀ k ∈ ks, l.getD k true = false) (S' := S1) hi hs hQ hn (fun l j hI hri hj e => ?_) n l a w (Region.free_spec hi hf) hl' (by simpa using hr) hy (hB.2 (hl' h hm)) hB H
  have no := chained_not ks i l hd (mem_ready.1 hri).1 hI
  have g1 : ∀ k ∈ ks, (l.setIfInBounds j true).getD k true = false := fun k hk => by
    rw [getD_set_ne true (fun q => no k hk (by rw [← q]; exact hj))]; exact hI k hk
  refine ⟨g1, fun w _ q => q ?_⟩
  rw [Array.setIfInBounds_comm _ _ (Ne.symm e), getD_set_ne true (Ne.symm hn)]; exact g1 h hm
end
end Go.Proofs.YthomdgnmoapbkaaDoor
end S5

section S6
namespace Go.Proofs.YthomdgnmoapbkaaDoor
open Go.RowKit
theorem less_self (l : List UInt8) : Op.bytesLess l l = false := by
  induction l with
  | nil => rfl
  | cons b l ih => simp [Op.bytesLess, ih]
theorem ptsUp_twice (x : Pt) (d : Pt) : ∀ (l : List Pt) (b : ByteArray), l ≠ [] → (l.getD (l.length - 1) d).n = x.n → ptsUp b (l ++ [x]) = false := by
  intro l
  induction l with
  | nil => exact fun b h => absurd rfl h
  | cons y r ih =>
    intro b _ hn
    rw [List.cons_append]
    unfold ptsUp
    cases r with
    | nil =>
      have e : y.n = x.n := by simpa using hn
      have : ptsUp y.n [x] = false := by
        unfold ptsUp ptB
        rw [e, show L.ltS x.n x.n = false from less_self _]; rfl
      rw [List.nil_append, this, Bool.and_false]
    | cons z r =>
      have := ih y.n (by simp) (by simpa using hn)
      rw [this, Bool.and_false]
theorem obS_twice {o : Ob} {d : Pt} (h : o.ps ≠ []) : obS { o with ps := o.ps ++ [o.ps.getD (o.ps.length - 1) d] } = false := by
  unfold obS ptsB
  simp only
  rw [ptsUp_twice (o.ps.getD (o.ps.length - 1) d) d o.ps _ h rfl]
  simp
theorem obS_label (o : Ob) : obS { o with ls := o.ls ++ [(⟨#[45]⟩, ⟨#[]⟩)] } = false := by
  have : L.lblsB (o.ls ++ [(⟨#[45]⟩, ⟨#[]⟩)]) = false := L.lblsB_no (k := o.ls.length) (by simp) (by
    rw [List.getD_eq_getElem?_getD, List.getElem?_append_right (Nat.le_refl _), Nat.sub_self]
    show L.lblB (⟨#[45]⟩, ⟨#[]⟩) = false
    decide +kernel)
  unfold obS L.validE
  simp only
  rw [this]
  simp
theorem pieces_app (c : UInt8) (l : List UInt8) : L.pieces c (l ++ [c]) = L.pieces c l ++ [[]] := by
  induction l with
  | nil => simp [L.pieces]
  | cons b l ih =>
    rw [List.cons_append]
    unfold L.pieces
    by_cases hb : b = c
    · rw [if_pos hb, if_pos hb, ih]; rfl
    · rw [if_neg hb, if_neg hb, ih]
      have hne := L.pieces_ne c l
      cases hp : L.pieces c l with
      | nil => exact absurd hp hne
      | cons q r => rfl
theorem obS_path {o : Ob} (h : obS o = true) : obS { o with p := o.p ++ ⟨#[47]⟩ } = false := by
  have hp : o.p.data.toList ≠ [] := by
    intro q
    have hs : L.splitE o.p = 0 := by
      unfold obS namedB at h
      simp only [Bool.and_eq_true, decide_eq_true_eq] at h
      exact h.1.1
    unfold L.splitE L.splitO at hs
    rw [q] at hs
    simp [Lib.hasPrefix] at hs
  have e : (o.p ++ ⟨#[47]⟩).data.toList = o.p.data.toList ++ [47] := by simp
  have e2 : L.splitO (o.p ++ ⟨#[47]⟩) = none := by
    unfold L.splitO
    rw [e]
    obtain ⟨c, r, hc⟩ := List.exists_cons_of_ne_nil hp
    rw [hc, if_neg (by simp), if_neg]
    rintro ⟨_, _, _, q⟩
    rw [List.cons_append, List.tail_cons, pieces_app, List.map_append, List.all_append] at q
    simp only [Bool.and_eq_true, List.map_cons, List.map_nil, List.all_cons, List.all_nil, Bool.and_true] at q
    exact absurd q.2 (by decide +kernel)
  have : L.splitE (o.p ++ ⟨#[47]⟩) = 41 := by unfold L.splitE; rw [e2]; rfl
  unfold obS namedB
  simp only
  rw [this]
  simp
theorem obR_no {x : Ob} (h : obS x = false) : obR x = (⟨#[]⟩, 130) := by
  unfold obR; rw [h, if_neg (by decide)]
theorem obR_zero {x : Ob} {t : ByteArray} (h : obR x = (t, 0)) : obS x = true := by
  unfold obR at h
  split at h
  · assumption
  · simp at h
theorem obS_some {o : Ob} (h : obS o = true) : o.ps ≠ [] := by
  intro q
  unfold obS ptsB at h
  rw [q] at h
  simp at h
end Go.Proofs.YthomdgnmoapbkaaDoor
end S6

section S7
namespace Go.Proofs.YthomdgnmoapbkaaDoor
open Go.RowKit
def Wrong (w : World) (e : Ending) (w' : World) : Prop := ∃ x vl vp, e = .returned (x.val vl vp) ∧ ObV w' vl vp x ∧ x.Fit ∧ obS x = false ∧ Below w.heap.size w w'
set_option maxHeartbeats 8000000 in
set_option maxRecDepth 100000 in
theorem wrong_0 (w : World) : Calls Tryd.prog 5 #[.int .i64 0] w (Wrong w) := by
  have SM := Lib.hid (small_any (w.alloc (.cells #[.string ⟨#[]⟩, .string ⟨#[]⟩, .slice none 0 0, .int .i64 0, .int .i64 0, .slice none 0 0, .int .i64 0] 25)))
  go_enter Tryd.func5, Tryd.ntmps5
  go_wp2_with fail
  refine SM.out.mono ?_
  rintro e W1 ⟨vl, vp, rfl, ho, hb⟩
  clear SM
  obtain ⟨la, lc, hl9, _, _⟩ := ho.obv.l.len
  have hl8 : vl = .slice la 0 lc := hl9
  clear hl9
  subst hl8
  obtain ⟨pa, pc, hp9, _, _⟩ := ho.obv.p.len
  have hp8 : vp = .slice pa 1 pc := hp9
  clear hp9
  subst hp8
  obtain ⟨X, hX⟩ : ∃ X, X = W1.alloc (.cells #[.string ⟨#[47, 97]⟩, .string ⟨#[120]⟩, .slice la 0 lc, .int .i64 3, .int .i64 0, .slice pa 1 pc, .int .i64 7] 25) := ⟨_, rfl⟩
  obtain ⟨bo, hbo⟩ : ∃ bo, bo = W1.heap.size := ⟨_, rfl⟩
  obtain ⟨rs, K0⟩ := WO.start w ((Below.refl _ w).alloc (Nat.le_refl _) _) ho hb hX hbo
  have K := Lib.hid K0
  clear ho hb K0
  unfold Ob.val smO
  simp only
  have hX2 := hX.symm
  have hb2 := hbo.symm
  clear hX hbo
  have cb : ∀ j y, (#[.string ⟨#[47, 97]⟩, .string ⟨#[120]⟩, .slice la 0 lc, .int .i64 3, .int .i64 0, .slice pa 1 pc, .int .i64 7] : Array Value)[j]? = some y → X.cell? ⟨bo, j, none⟩ = some y := fun j y hy => by rw [cell_of_row X bo j _ _ _ K.out.o]; exact hy
  have fz : ∀ j, X.frozen? ⟨bo, j, none⟩ = false := fun j => frozen_of_row _ _ _ _ _ K.out.o
  have c9 := cb 1 _ rfl
  have f9 := fz 1
  obtain ⟨X5, hX5⟩ : ∃ X5, X5 = X.setCell ⟨bo, 1, none⟩ (.string ⟨#[]⟩) := ⟨_, rfl⟩
  have K5 : Hid (WO w bo (⟨⟨#[47, 97]⟩, ⟨#[]⟩, [], 3, 0, [⟨⟨#[109, 97, 105, 110]⟩, [⟨⟨#[99, 112, 117]⟩, 500⟩], []⟩], 7⟩ : Ob) (.slice la 0 lc) (.slice pa 1 pc) rs X5) := Lib.hid (by rw [hX5]; exact K.out.into 1 _ rfl K.out.l K.out.p K.out.q)
  have hX6 := hX5.symm
  clear hX5 K cb fz
  have ce : ∀ j y, (#[.string ⟨#[47, 97]⟩, .string ⟨#[]⟩, .slice la 0 lc, .int .i64 3, .int .i64 0, .slice pa 1 pc, .int .i64 7] : Array Value)[j]? = some y → X5.cell? ⟨bo, j, none⟩ = some y := fun j y hy => by rw [cell_of_row X5 bo j _ _ _ K5.out.o]; exact hy
  have e0 := ce 0 _ rfl
  have e1 := ce 1 _ rfl
  have e2 := ce 2 _ rfl
  have e3 := ce 3 _ rfl
  have e4 := ce 4 _ rfl
  have e5 := ce 5 _ rfl
  have e6 := ce 6 _ rfl
  have ON : Hid ((#[.string ⟨#[47, 97]⟩, .string ⟨#[]⟩, .slice la 0 lc, .int .i64 3, .int .i64 0, .slice pa 1 pc, .int .i64 7] : Array Value).all (·.oneCell') = true) := Lib.hid (by simp [Value.oneCell'])
  clear ce
  go_wp2_with (refine wpList_store_row rfl 25 (.tmp 2) (.tmp 97) rfl w.heap.size #[.string ⟨#[47, 97]⟩, .string ⟨#[]⟩, .slice la 0 lc, .int .i64 3, .int .i64 0, .slice pa 1 pc, .int .i64 7] rfl rfl 25 #[.string ⟨#[]⟩, .string ⟨#[]⟩, .slice none 0 0, .int .i64 0, .int .i64 0, .slice none 0 0, .int .i64 0] K5.out.z size_obj rfl ON.out ?_)
  have D := K5.out.done #[.string ⟨#[47, 97]⟩, .string ⟨#[]⟩, .slice la 0 lc, .int .i64 3, .int .i64 0, .slice pa 1 pc, .int .i64 7]
  refine bodyPost_ret (results_cell_row rfl _ _ w.heap.size 25 #[.string ⟨#[47, 97]⟩, .string ⟨#[]⟩, .slice la 0 lc, .int .i64 3, .int .i64 0, .slice pa 1 pc, .int .i64 7] (0, 0) _ rfl (setRow_heap _ _ _ _ _ _ K5.out.z) Tryd.underlying25 rfl size_obj) rfl ?_
  exact ⟨(⟨⟨#[47, 97]⟩, ⟨#[]⟩, [], 3, 0, [⟨⟨#[109, 97, 105, 110]⟩, [⟨⟨#[99, 112, 117]⟩, 500⟩], []⟩], 7⟩ : Ob), _, _, rfl, D.1, ⟨⟨by decide, by decide⟩, smO_fit.l, smO_fit.p, by decide⟩, by decide +kernel, D.2⟩
set_option maxHeartbeats 8000000 in
set_option maxRecDepth 100000 in
theorem wrong_1 (w : World) : Calls Tryd.prog 5 #[.int .i64 1] w (Wrong w) := by
  have SM := Lib.hid (small_any (w.alloc (.cells #[.string ⟨#[]⟩, .string ⟨#[]⟩, .slice none 0 0, .int .i64 0, .int .i64 0, .slice none 0 0, .int .i64 0] 25)))
  go_enter Tryd.func5, Tryd.ntmps5
  go_wp2_with fail
  refine SM.out.mono ?_
  rintro e W1 ⟨vl, vp, rfl, ho, hb⟩
  clear SM
  obtain ⟨la, lc, hl9, _, _⟩ := ho.obv.l.len
  have hl8 : vl = .slice la 0 lc := hl9
  clear hl9
  subst hl8
  obtain ⟨pa, pc, hp9, _, _⟩ := ho.obv.p.len
  have hp8 : vp = .slice pa 1 pc := hp9
  clear hp9
  subst hp8
  obtain ⟨X, hX⟩ : ∃ X, X = W1.alloc (.cells #[.string ⟨#[47, 97]⟩, .string ⟨#[120]⟩, .slice la 0 lc, .int .i64 3, .int .i64 0, .slice pa 1 pc, .int .i64 7] 25) := ⟨_, rfl⟩
  obtain ⟨bo, hbo⟩ : ∃ bo, bo = W1.heap.size := ⟨_, rfl⟩
  obtain ⟨rs, K0⟩ := WO.start w ((Below.refl _ w).alloc (Nat.le_refl _) _) ho hb hX hbo
  have K := Lib.hid K0
  clear ho hb K0
  unfold Ob.val smO
  simp only
  have hX2 := hX.symm
  have hb2 := hbo.symm
  clear hX hbo
  have cb : ∀ j y, (#[.string ⟨#[47, 97]⟩, .string ⟨#[120]⟩, .slice la 0 lc, .int .i64 3, .int .i64 0, .slice pa 1 pc, .int .i64 7] : Array Value)[j]? = some y → X.cell? ⟨bo, j, none⟩ = some y := fun j y hy => by rw [cell_of_row X bo j _ _ _ K.out.o]; exact hy
  have fz : ∀ j, X.frozen? ⟨bo, j, none⟩ = false := fun j => frozen_of_row _ _ _ _ _ K.out.o
  have c9 := cb 1 _ rfl
  have f9 := fz 1
  obtain ⟨X5, hX5⟩ : ∃ X5, X5 = X.setCell ⟨bo, 1, none⟩ (.string ⟨#[97, 47, 98]⟩) := ⟨_, rfl⟩
  have K5 : Hid (WO w bo (⟨⟨#[47, 97]⟩, ⟨#[97, 47, 98]⟩, [], 3, 0, [⟨⟨#[109, 97, 105, 110]⟩, [⟨⟨#[99, 112, 117]⟩, 500⟩], []⟩], 7⟩ : Ob) (.slice la 0 lc) (.slice pa 1 pc) rs X5) := Lib.hid (by rw [hX5]; exact K.out.into 1 _ rfl K.out.l K.out.p K.out.q)
  have hX6 := hX5.symm
  clear hX5 K cb fz
  have ce : ∀ j y, (#[.string ⟨#[47, 97]⟩, .string ⟨#[97, 47, 98]⟩, .slice la 0 lc, .int .i64 3, .int .i64 0, .slice pa 1 pc, .int .i64 7] : Array Value)[j]? = some y → X5.cell? ⟨bo, j, none⟩ = some y := fun j y hy => by rw [cell_of_row X5 bo j _ _ _ K5.out.o]; exact hy
  have e0 := ce 0 _ rfl
  have e1 := ce 1 _ rfl
  have e2 := ce 2 _ rfl
  have e3 := ce 3 _ rfl
  have e4 := ce 4 _ rfl
  have e5 := ce 5 _ rfl
  have e6 := ce 6 _ rfl
  have ON : Hid ((#[.string ⟨#[47, 97]⟩, .string ⟨#[97, 47, 98]⟩, .slice la 0 lc, .int .i64 3, .int .i64 0, .slice pa 1 pc, .int .i64 7] : Array Value).all (·.oneCell') = true) := Lib.hid (by simp [Value.oneCell'])
  clear ce
  go_wp2_with (refine wpList_store_row rfl 25 (.tmp 2) (.tmp 97) rfl w.heap.size #[.string ⟨#[47, 97]⟩, .string ⟨#[97, 47, 98]⟩, .slice la 0 lc, .int .i64 3, .int .i64 0, .slice pa 1 pc, .int .i64 7] rfl rfl 25 #[.string ⟨#[]⟩, .string ⟨#[]⟩, .slice none 0 0, .int .i64 0, .int .i64 0, .slice none 0 0, .int .i64 0] K5.out.z size_obj rfl ON.out ?_)
  have D := K5.out.done #[.string ⟨#[47, 97]⟩, .string ⟨#[97, 47, 98]⟩, .slice la 0 lc, .int .i64 3, .int .i64 0, .slice pa 1 pc, .int .i64 7]
  refine bodyPost_ret (results_cell_row rfl _ _ w.heap.size 25 #[.string ⟨#[47, 97]⟩, .string ⟨#[97, 47, 98]⟩, .slice la 0 lc, .int .i64 3, .int .i64 0, .slice pa 1 pc, .int .i64 7] (0, 0) _ rfl (setRow_heap _ _ _ _ _ _ K5.out.z) Tryd.underlying25 rfl size_obj) rfl ?_
  exact ⟨(⟨⟨#[47, 97]⟩, ⟨#[97, 47, 98]⟩, [], 3, 0, [⟨⟨#[109, 97, 105, 110]⟩, [⟨⟨#[99, 112, 117]⟩, 500⟩], []⟩], 7⟩ : Ob), _, _, rfl, D.1, ⟨⟨by decide, by decide⟩, smO_fit.l, smO_fit.p, by decide⟩, by decide +kernel, D.2⟩
set_option maxHeartbeats 8000000 in
set_option maxRecDepth 100000 in
theorem wrong_2 (w : World) : Calls Tryd.prog 5 #[.int .i64 2] w (Wrong w) := by
  have SM := Lib.hid (small_any (w.alloc (.cells #[.string ⟨#[]⟩, .string ⟨#[]⟩, .slice none 0 0, .int .i64 0, .int .i64 0, .slice none 0 0, .int .i64 0] 25)))
  go_enter Tryd.func5, Tryd.ntmps5
  go_wp2_with fail
  refine SM.out.mono ?_
  rintro e W1 ⟨vl, vp, rfl, ho, hb⟩
  clear SM
  obtain ⟨la, lc, hl9, _, _⟩ := ho.obv.l.len
  have hl8 : vl = .slice la 0 lc := hl9
  clear hl9
  subst hl8
  obtain ⟨pa, pc, hp9, _, _⟩ := ho.obv.p.len
  have hp8 : vp = .slice pa 1 pc := hp9
  clear hp9
  subst hp8
  obtain ⟨X, hX⟩ : ∃ X, X = W1.alloc (.cells #[.string ⟨#[47, 97]⟩, .string ⟨#[120]⟩, .slice la 0 lc, .int .i64 3, .int .i64 0, .slice pa 1 pc, .int .i64 7] 25) := ⟨_, rfl⟩
  obtain ⟨bo, hbo⟩ : ∃ bo, bo = W1.heap.size := ⟨_, rfl⟩
  obtain ⟨rs, K0⟩ := WO.start w ((Below.refl _ w).alloc (Nat.le_refl _) _) ho hb hX hbo
  have K := Lib.hid K0
  clear ho hb K0
  unfold Ob.val smO
  simp only
  have hX2 := hX.symm
  have hb2 := hbo.symm
  clear hX hbo
  have cb : ∀ j y, (#[.string ⟨#[47, 97]⟩, .string ⟨#[120]⟩, .slice la 0 lc, .int .i64 3, .int .i64 0, .slice pa 1 pc, .int .i64 7] : Array Value)[j]? = some y → X.cell? ⟨bo, j, none⟩ = some y := fun j y hy => by rw [cell_of_row X bo j _ _ _ K.out.o]; exact hy
  have fz : ∀ j, X.frozen? ⟨bo, j, none⟩ = false := fun j => frozen_of_row _ _ _ _ _ K.out.o
  have c9 := cb 0 _ rfl
  have f9 := fz 0
  obtain ⟨X5, hX5⟩ : ∃ X5, X5 = X.setCell ⟨bo, 0, none⟩ (.string ⟨#[97]⟩) := ⟨_, rfl⟩
  have K5 : Hid (WO w bo (⟨⟨#[97]⟩, ⟨#[120]⟩, [], 3, 0, [⟨⟨#[109, 97, 105, 110]⟩, [⟨⟨#[99, 112, 117]⟩, 500⟩], []⟩], 7⟩ : Ob) (.slice la 0 lc) (.slice pa 1 pc) rs X5) := Lib.hid (by rw [hX5]; exact K.out.into 0 _ rfl K.out.l K.out.p K.out.q)
  have hX6 := hX5.symm
  clear hX5 K cb fz
  have ce : ∀ j y, (#[.string ⟨#[97]⟩, .string ⟨#[120]⟩, .slice la 0 lc, .int .i64 3, .int .i64 0, .slice pa 1 pc, .int .i64 7] : Array Value)[j]? = some y → X5.cell? ⟨bo, j, none⟩ = some y := fun j y hy => by rw [cell_of_row X5 bo j _ _ _ K5.out.o]; exact hy
  have e0 := ce 0 _ rfl
  have e1 := ce 1 _ rfl
  have e2 := ce 2 _ rfl
  have e3 := ce 3 _ rfl
  have e4 := ce 4 _ rfl
  have e5 := ce 5 _ rfl
  have e6 := ce 6 _ rfl
  have ON : Hid ((#[.string ⟨#[97]⟩, .string ⟨#[120]⟩, .slice la 0 lc, .int .i64 3, .int .i64 0, .slice pa 1 pc, .int .i64 7] : Array Value).all (·.oneCell') = true) := Lib.hid (by simp [Value.oneCell'])
  clear ce
  go_wp2_with (refine wpList_store_row rfl 25 (.tmp 2) (.tmp 97) rfl w.heap.size #[.string ⟨#[97]⟩, .string ⟨#[120]⟩, .slice la 0 lc, .int .i64 3, .int .i64 0, .slice pa 1 pc, .int .i64 7] rfl rfl 25 #[.string ⟨#[]⟩, .string ⟨#[]⟩, .slice none 0 0, .int .i64 0, .int .i64 0, .slice none 0 0, .int .i64 0] K5.out.z size_obj rfl ON.out ?_)
  have D := K5.out.done #[.string ⟨#[97]⟩, .string ⟨#[120]⟩, .slice la 0 lc, .int .i64 3, .int .i64 0, .slice pa 1 pc, .int .i64 7]
  refine bodyPost_ret (results_cell_row rfl _ _ w.heap.size 25 #[.string ⟨#[97]⟩, .string ⟨#[120]⟩, .slice la 0 lc, .int .i64 3, .int .i64 0, .slice pa 1 pc, .int .i64 7] (0, 0) _ rfl (setRow_heap _ _ _ _ _ _ K5.out.z) Tryd.underlying25 rfl size_obj) rfl ?_
  exact ⟨(⟨⟨#[97]⟩, ⟨#[120]⟩, [], 3, 0, [⟨⟨#[109, 97, 105, 110]⟩, [⟨⟨#[99, 112, 117]⟩, 500⟩], []⟩], 7⟩ : Ob), _, _, rfl, D.1, ⟨⟨by decide, by decide⟩, smO_fit.l, smO_fit.p, by decide⟩, by decide +kernel, D.2⟩
set_option maxHeartbeats 8000000 in
set_option maxRecDepth 100000 in
theorem wrong_3 (w : World) : Calls Tryd.prog 5 #[.int .i64 3] w (Wrong w) := by
  have SM := Lib.hid (small_any (w.alloc (.cells #[.string ⟨#[]⟩, .string ⟨#[]⟩, .slice none 0 0, .int .i64 0, .int .i64 0, .slice none 0 0, .int .i64 0] 25)))
  go_enter Tryd.func5, Tryd.ntmps5
  go_wp2_with fail
  refine SM.out.mono ?_
  rintro e W1 ⟨vl, vp, rfl, ho, hb⟩
  clear SM
  obtain ⟨la, lc, hl9, _, _⟩ := ho.obv.l.len
  have hl8 : vl = .slice la 0 lc := hl9
  clear hl9
  subst hl8
  obtain ⟨pa, pc, hp9, _, _⟩ := ho.obv.p.len
  have hp8 : vp = .slice pa 1 pc := hp9
  clear hp9
  subst hp8
  obtain ⟨X, hX⟩ : ∃ X, X = W1.alloc (.cells #[.string ⟨#[47, 97]⟩, .string ⟨#[120]⟩, .slice la 0 lc, .int .i64 3, .int .i64 0, .slice pa 1 pc, .int .i64 7] 25) := ⟨_, rfl⟩
  obtain ⟨bo, hbo⟩ : ∃ bo, bo = W1.heap.size := ⟨_, rfl⟩
  obtain ⟨rs, K0⟩ := WO.start w ((Below.refl _ w).alloc (Nat.le_refl _) _) ho hb hX hbo
  have K := Lib.hid K0
  clear ho hb K0
  unfold Ob.val smO
  simp only
  have hX2 := hX.symm
  have hb2 := hbo.symm
  clear hX hbo
  have cb : ∀ j y, (#[.string ⟨#[47, 97]⟩, .string ⟨#[120]⟩, .slice la 0 lc, .int .i64 3, .int .i64 0, .slice pa 1 pc, .int .i64 7] : Array Value)[j]? = some y → X.cell? ⟨bo, j, none⟩ = some y := fun j y hy => by rw [cell_of_row X bo j _ _ _ K.out.o]; exact hy
  have fz : ∀ j, X.frozen? ⟨bo, j, none⟩ = false := fun j => frozen_of_row _ _ _ _ _ K.out.o
  have c9 := cb 5 _ rfl
  have f9 := fz 5
  obtain ⟨X5, hX5⟩ : ∃ X5, X5 = X.setCell ⟨bo, 5, none⟩ (.slice none 0 0) := ⟨_, rfl⟩
  have K5 : Hid (WO w bo (⟨⟨#[47, 97]⟩, ⟨#[120]⟩, [], 3, 0, [], 7⟩ : Ob) (.slice la 0 lc) (.slice none 0 0) [] X5) := Lib.hid (by rw [hX5]; exact K.out.into 5 _ rfl K.out.l (OwnR.nil _ _ _) ⟨rfl, fun k hk => by simp at hk⟩)
  have hX6 := hX5.symm
  clear hX5 K cb fz
  have ce : ∀ j y, (#[.string ⟨#[47, 97]⟩, .string ⟨#[120]⟩, .slice la 0 lc, .int .i64 3, .int .i64 0, .slice none 0 0, .int .i64 7] : Array Value)[j]? = some y → X5.cell? ⟨bo, j, none⟩ = some y := fun j y hy => by rw [cell_of_row X5 bo j _ _ _ K5.out.o]; exact hy
  have e0 := ce 0 _ rfl
  have e1 := ce 1 _ rfl
  have e2 := ce 2 _ rfl
  have e3 := ce 3 _ rfl
  have e4 := ce 4 _ rfl
  have e5 := ce 5 _ rfl
  have e6 := ce 6 _ rfl
  have ON : Hid ((#[.string ⟨#[47, 97]⟩, .string ⟨#[120]⟩, .slice la 0 lc, .int .i64 3, .int .i64 0, .slice none 0 0, .int .i64 7] : Array Value).all (·.oneCell') = true) := Lib.hid (by simp [Value.oneCell'])
  clear ce
  go_wp2_with (refine wpList_store_row rfl 25 (.tmp 2) (.tmp 97) rfl w.heap.size #[.string ⟨#[47, 97]⟩, .string ⟨#[120]⟩, .slice la 0 lc, .int .i64 3, .int .i64 0, .slice none 0 0, .int .i64 7] rfl rfl 25 #[.string ⟨#[]⟩, .string ⟨#[]⟩, .slice none 0 0, .int .i64 0, .int .i64 0, .slice none 0 0, .int .i64 0] K5.out.z size_obj rfl ON.out ?_)
  have D := K5.out.done #[.string ⟨#[47, 97]⟩, .string ⟨#[120]⟩, .slice la 0 lc, .int .i64 3, .int .i64 0, .slice none 0 0, .int .i64 7]
  refine bodyPost_ret (results_cell_row rfl _ _ w.heap.size 25 #[.string ⟨#[47, 97]⟩, .string ⟨#[120]⟩, .slice la 0 lc, .int .i64 3, .int .i64 0, .slice none 0 0, .int .i64 7] (0, 0) _ rfl (setRow_heap _ _ _ _ _ _ K5.out.z) Tryd.underlying25 rfl size_obj) rfl ?_
  exact ⟨(⟨⟨#[47, 97]⟩, ⟨#[120]⟩, [], 3, 0, [], 7⟩ : Ob), _, _, rfl, D.1, ⟨⟨by decide, by decide⟩, smO_fit.l, fun x hx => by simp at hx, by decide⟩, by decide +kernel, D.2⟩
set_option maxHeartbeats 8000000 in
set_option maxRecDepth 100000 in
theorem wrong_6 (w : World) : Calls Tryd.prog 5 #[.int .i64 6] w (Wrong w) := by
  have SM := Lib.hid (small_any (w.alloc (.cells #[.string ⟨#[]⟩, .string ⟨#[]⟩, .slice none 0 0, .int .i64 0, .int .i64 0, .slice none 0 0, .int .i64 0] 25)))
  go_enter Tryd.func5, Tryd.ntmps5
  go_wp2_with fail
  refine SM.out.mono ?_
  rintro e W1 ⟨vl, vp, rfl, ho, hb⟩
  clear SM
  obtain ⟨la, lc, hl9, _, _⟩ := ho.obv.l.len
  have hl8 : vl = .slice la 0 lc := hl9
  clear hl9
  subst hl8
  obtain ⟨pa, pc, hp9, _, _⟩ := ho.obv.p.len
  have hp8 : vp = .slice pa 1 pc := hp9
  clear hp9
  subst hp8
  obtain ⟨X, hX⟩ : ∃ X, X = W1.alloc (.cells #[.string ⟨#[47, 97]⟩, .string ⟨#[120]⟩, .slice la 0 lc, .int .i64 3, .int .i64 0, .slice pa 1 pc, .int .i64 7] 25) := ⟨_, rfl⟩
  obtain ⟨bo, hbo⟩ : ∃ bo, bo = W1.heap.size := ⟨_, rfl⟩
  obtain ⟨rs, K0⟩ := WO.start w ((Below.refl _ w).alloc (Nat.le_refl _) _) ho hb hX hbo
  have K := Lib.hid K0
  clear ho hb K0
  unfold Ob.val smO
  simp only
  have hX2 := hX.symm
  have hb2 := hbo.symm
  clear hX hbo
  have cb : ∀ j y, (#[.string ⟨#[47, 97]⟩, .string ⟨#[120]⟩, .slice la 0 lc, .int .i64 3, .int .i64 0, .slice pa 1 pc, .int .i64 7] : Array Value)[j]? = some y → X.cell? ⟨bo, j, none⟩ = some y := fun j y hy => by rw [cell_of_row X bo j _ _ _ K.out.o]; exact hy
  have fz : ∀ j, X.frozen? ⟨bo, j, none⟩ = false := fun j => frozen_of_row _ _ _ _ _ K.out.o
  have c9 := cb 3 _ rfl
  have f9 := fz 3
  obtain ⟨X5, hX5⟩ : ∃ X5, X5 = X.setCell ⟨bo, 3, none⟩ (.int .i64 10) := ⟨_, rfl⟩
  have K5 : Hid (WO w bo (⟨⟨#[47, 97]⟩, ⟨#[120]⟩, [], 10, 0, [⟨⟨#[109, 97, 105, 110]⟩, [⟨⟨#[99, 112, 117]⟩, 500⟩], []⟩], 7⟩ : Ob) (.slice la 0 lc) (.slice pa 1 pc) rs X5) := Lib.hid (by rw [hX5]; exact K.out.into 3 _ rfl K.out.l K.out.p K.out.q)
  have hX6 := hX5.symm
  clear hX5 K cb fz
  have ce : ∀ j y, (#[.string ⟨#[47, 97]⟩, .string ⟨#[120]⟩, .slice la 0 lc, .int .i64 10, .int .i64 0, .slice pa 1 pc, .int .i64 7] : Array Value)[j]? = some y → X5.cell? ⟨bo, j, none⟩ = some y := fun j y hy => by rw [cell_of_row X5 bo j _ _ _ K5.out.o]; exact hy
  have e0 := ce 0 _ rfl
  have e1 := ce 1 _ rfl
  have e2 := ce 2 _ rfl
  have e3 := ce 3 _ rfl
  have e4 := ce 4 _ rfl
  have e5 := ce 5 _ rfl
  have e6 := ce 6 _ rfl
  have ON : Hid ((#[.string ⟨#[47, 97]⟩, .string ⟨#[120]⟩, .slice la 0 lc, .int .i64 10, .int .i64 0, .slice pa 1 pc, .int .i64 7] : Array Value).all (·.oneCell') = true) := Lib.hid (by simp [Value.oneCell'])
  clear ce
  go_wp2_with (refine wpList_store_row rfl 25 (.tmp 2) (.tmp 97) rfl w.heap.size #[.string ⟨#[47, 97]⟩, .string ⟨#[120]⟩, .slice la 0 lc, .int .i64 10, .int .i64 0, .slice pa 1 pc, .int .i64 7] rfl rfl 25 #[.string ⟨#[]⟩, .string ⟨#[]⟩, .slice none 0 0, .int .i64 0, .int .i64 0, .slice none 0 0, .int .i64 0] K5.out.z size_obj rfl ON.out ?_)
  have D := K5.out.done #[.string ⟨#[47, 97]⟩, .string ⟨#[120]⟩, .slice la 0 lc, .int .i64 10, .int .i64 0, .slice pa 1 pc, .int .i64 7]
  refine bodyPost_ret (results_cell_row rfl _ _ w.heap.size 25 #[.string ⟨#[47, 97]⟩, .string ⟨#[120]⟩, .slice la 0 lc, .int .i64 10, .int .i64 0, .slice pa 1 pc, .int .i64 7] (0, 0) _ rfl (setRow_heap _ _ _ _ _ _ K5.out.z) Tryd.underlying25 rfl size_obj) rfl ?_
  exact ⟨(⟨⟨#[47, 97]⟩, ⟨#[120]⟩, [], 10, 0, [⟨⟨#[109, 97, 105, 110]⟩, [⟨⟨#[99, 112, 117]⟩, 500⟩], []⟩], 7⟩ : Ob), _, _, rfl, D.1, ⟨⟨by decide, by decide⟩, smO_fit.l, smO_fit.p, by decide⟩, by decide +kernel, D.2⟩
set_option maxHeartbeats 8000000 in
set_option maxRecDepth 100000 in
theorem wrong_7 (w : World) : Calls Tryd.prog 5 #[.int .i64 7] w (Wrong w) := by
  have SM := Lib.hid (small_any (w.alloc (.cells #[.string ⟨#[]⟩, .string ⟨#[]⟩, .slice none 0 0, .int .i64 0, .int .i64 0, .slice none 0 0, .int .i64 0] 25)))
  go_enter Tryd.func5, Tryd.ntmps5
  go_wp2_with fail
  refine SM.out.mono ?_
  rintro e W1 ⟨vl, vp, rfl, ho, hb⟩
  clear SM
  obtain ⟨la, lc, hl9, _, _⟩ := ho.obv.l.len
  have hl8 : vl = .slice la 0 lc := hl9
  clear hl9
  subst hl8
  obtain ⟨pa, pc, hp9, _, _⟩ := ho.obv.p.len
  have hp8 : vp = .slice pa 1 pc := hp9
  clear hp9
  subst hp8
  obtain ⟨X, hX⟩ : ∃ X, X = W1.alloc (.cells #[.string ⟨#[47, 97]⟩, .string ⟨#[120]⟩, .slice la 0 lc, .int .i64 3, .int .i64 0, .slice pa 1 pc, .int .i64 7] 25) := ⟨_, rfl⟩
  obtain ⟨bo, hbo⟩ : ∃ bo, bo = W1.heap.size := ⟨_, rfl⟩
  obtain ⟨rs, K0⟩ := WO.start w ((Below.refl _ w).alloc (Nat.le_refl _) _) ho hb hX hbo
  have K := Lib.hid K0
  clear ho hb K0
  unfold Ob.val smO
  simp only
  have hX2 := hX.symm
  have hb2 := hbo.symm
  clear hX hbo
  have cb : ∀ j y, (#[.string ⟨#[47, 97]⟩, .string ⟨#[120]⟩, .slice la 0 lc, .int .i64 3, .int .i64 0, .slice pa 1 pc, .int .i64 7] : Array Value)[j]? = some y → X.cell? ⟨bo, j, none⟩ = some y := fun j y hy => by rw [cell_of_row X bo j _ _ _ K.out.o]; exact hy
  have fz : ∀ j, X.frozen? ⟨bo, j, none⟩ = false := fun j => frozen_of_row _ _ _ _ _ K.out.o
  have c9 := cb 3 _ rfl
  have f9 := fz 3
  obtain ⟨X5, hX5⟩ : ∃ X5, X5 = X.setCell ⟨bo, 3, none⟩ (.int .i64 (-1)) := ⟨_, rfl⟩
  have K5 : Hid (WO w bo (⟨⟨#[47, 97]⟩, ⟨#[120]⟩, [], -1, 0, [⟨⟨#[109, 97, 105, 110]⟩, [⟨⟨#[99, 112, 117]⟩, 500⟩], []⟩], 7⟩ : Ob) (.slice la 0 lc) (.slice pa 1 pc) rs X5) := Lib.hid (by rw [hX5]; exact K.out.into 3 _ rfl K.out.l K.out.p K.out.q)
  have hX6 := hX5.symm
  clear hX5 K cb fz
  have ce : ∀ j y, (#[.string ⟨#[47, 97]⟩, .string ⟨#[120]⟩, .slice la 0 lc, .int .i64 (-1), .int .i64 0, .slice pa 1 pc, .int .i64 7] : Array Value)[j]? = some y → X5.cell? ⟨bo, j, none⟩ = some y := fun j y hy => by rw [cell_of_row X5 bo j _ _ _ K5.out.o]; exact hy
  have e0 := ce 0 _ rfl
  have e1 := ce 1 _ rfl
  have e2 := ce 2 _ rfl
  have e3 := ce 3 _ rfl
  have e4 := ce 4 _ rfl
  have e5 := ce 5 _ rfl
  have e6 := ce 6 _ rfl
  have ON : Hid ((#[.string ⟨#[47, 97]⟩, .string ⟨#[120]⟩, .slice la 0 lc, .int .i64 (-1), .int .i64 0, .slice pa 1 pc, .int .i64 7] : Array Value).all (·.oneCell') = true) := Lib.hid (by simp [Value.oneCell'])
  clear ce
  go_wp2_with (refine wpList_store_row rfl 25 (.tmp 2) (.tmp 97) rfl w.heap.size #[.string ⟨#[47, 97]⟩, .string ⟨#[120]⟩, .slice la 0 lc, .int .i64 (-1), .int .i64 0, .slice pa 1 pc, .int .i64 7] rfl rfl 25 #[.string ⟨#[]⟩, .string ⟨#[]⟩, .slice none 0 0, .int .i64 0, .int .i64 0, .slice none 0 0, .int .i64 0] K5.out.z size_obj rfl ON.out ?_)
  have D := K5.out.done #[.string ⟨#[47, 97]⟩, .string ⟨#[120]⟩, .slice la 0 lc, .int .i64 (-1), .int .i64 0, .slice pa 1 pc, .int .i64 7]
  refine bodyPost_ret (results_cell_row rfl _ _ w.heap.size 25 #[.string ⟨#[47, 97]⟩, .string ⟨#[120]⟩, .slice la 0 lc, .int .i64 (-1), .int .i64 0, .slice pa 1 pc, .int .i64 7] (0, 0) _ rfl (setRow_heap _ _ _ _ _ _ K5.out.z) Tryd.underlying25 rfl size_obj) rfl ?_
  exact ⟨(⟨⟨#[47, 97]⟩, ⟨#[120]⟩, [], -1, 0, [⟨⟨#[109, 97, 105, 110]⟩, [⟨⟨#[99, 112, 117]⟩, 500⟩], []⟩], 7⟩ : Ob), _, _, rfl, D.1, ⟨⟨by decide, by decide⟩, smO_fit.l, smO_fit.p, by decide⟩, by decide +kernel, D.2⟩
set_option maxHeartbeats 8000000 in
set_option maxRecDepth 100000 in
theorem wrong_8 (w : World) : Calls Tryd.prog 5 #[.int .i64 8] w (Wrong w) := by
  have SM := Lib.hid (small_any (w.alloc (.cells #[.string ⟨#[]⟩, .string ⟨#[]⟩, .slice none 0 0, .int .i64 0, .int .i64 0, .slice none 0 0, .int .i64 0] 25)))
  go_enter Tryd.func5, Tryd.ntmps5
  go_wp2_with fail
  refine SM.out.mono ?_
  rintro e W1 ⟨vl, vp, rfl, ho, hb⟩
  clear SM
  obtain ⟨la, lc, hl9, _, _⟩ := ho.obv.l.len
  have hl8 : vl = .slice la 0 lc := hl9
  clear hl9
  subst hl8
  obtain ⟨pa, pc, hp9, _, _⟩ := ho.obv.p.len
  have hp8 : vp = .slice pa 1 pc := hp9
  clear hp9
  subst hp8
  obtain ⟨X, hX⟩ : ∃ X, X = W1.alloc (.cells #[.string ⟨#[47, 97]⟩, .string ⟨#[120]⟩, .slice la 0 lc, .int .i64 3, .int .i64 0, .slice pa 1 pc, .int .i64 7] 25) := ⟨_, rfl⟩
  obtain ⟨bo, hbo⟩ : ∃ bo, bo = W1.heap.size := ⟨_, rfl⟩
  obtain ⟨rs, K0⟩ := WO.start w ((Below.refl _ w).alloc (Nat.le_refl _) _) ho hb hX hbo
  have K := Lib.hid K0
  clear ho hb K0
  unfold Ob.val smO
  simp only
  have hX2 := hX.symm
  have hb2 := hbo.symm
  clear hX hbo
  have cb : ∀ j y, (#[.string ⟨#[47, 97]⟩, .string ⟨#[120]⟩, .slice la 0 lc, .int .i64 3, .int .i64 0, .slice pa 1 pc, .int .i64 7] : Array Value)[j]? = some y → X.cell? ⟨bo, j, none⟩ = some y := fun j y hy => by rw [cell_of_row X bo j _ _ _ K.out.o]; exact hy
  have fz : ∀ j, X.frozen? ⟨bo, j, none⟩ = false := fun j => frozen_of_row _ _ _ _ _ K.out.o
  have c9 := cb 4 _ rfl
  have f9 := fz 4
  obtain ⟨X5, hX5⟩ : ∃ X5, X5 = X.setCell ⟨bo, 4, none⟩ (.int .i64 (-1)) := ⟨_, rfl⟩
  have K5 : Hid (WO w bo (⟨⟨#[47, 97]⟩, ⟨#[120]⟩, [], 3, -1, [⟨⟨#[109, 97, 105, 110]⟩, [⟨⟨#[99, 112, 117]⟩, 500⟩], []⟩], 7⟩ : Ob) (.slice la 0 lc) (.slice pa 1 pc) rs X5) := Lib.hid (by rw [hX5]; exact K.out.into 4 _ rfl K.out.l K.out.p K.out.q)
  have hX6 := hX5.symm
  clear hX5 K cb fz
  have ce : ∀ j y, (#[.string ⟨#[47, 97]⟩, .string ⟨#[120]⟩, .slice la 0 lc, .int .i64 3, .int .i64 (-1), .slice pa 1 pc, .int .i64 7] : Array Value)[j]? = some y → X5.cell? ⟨bo, j, none⟩ = some y := fun j y hy => by rw [cell_of_row X5 bo j _ _ _ K5.out.o]; exact hy
  have e0 := ce 0 _ rfl
  have e1 := ce 1 _ rfl
  have e2 := ce 2 _ rfl
  have e3 := ce 3 _ rfl
  have e4 := ce 4 _ rfl
  have e5 := ce 5 _ rfl
  have e6 := ce 6 _ rfl
  have ON : Hid ((#[.string ⟨#[47, 97]⟩, .string ⟨#[120]⟩, .slice la 0 lc, .int .i64 3, .int .i64 (-1), .slice pa 1 pc, .int .i64 7] : Array Value).all (·.oneCell') = true) := Lib.hid (by simp [Value.oneCell'])
  clear ce
  go_wp2_with (refine wpList_store_row rfl 25 (.tmp 2) (.tmp 97) rfl w.heap.size #[.string ⟨#[47, 97]⟩, .string ⟨#[120]⟩, .slice la 0 lc, .int .i64 3, .int .i64 (-1), .slice pa 1 pc, .int .i64 7] rfl rfl 25 #[.string ⟨#[]⟩, .string ⟨#[]⟩, .slice none 0 0, .int .i64 0, .int .i64 0, .slice none 0 0, .int .i64 0] K5.out.z size_obj rfl ON.out ?_)
  have D := K5.out.done #[.string ⟨#[47, 97]⟩, .string ⟨#[120]⟩, .slice la 0 lc, .int .i64 3, .int .i64 (-1), .slice pa 1 pc, .int .i64 7]
  refine bodyPost_ret (results_cell_row rfl _ _ w.heap.size 25 #[.string ⟨#[47, 97]⟩, .string ⟨#[120]⟩, .slice la 0 lc, .int .i64 3, .int .i64 (-1), .slice pa 1 pc, .int .i64 7] (0, 0) _ rfl (setRow_heap _ _ _ _ _ _ K5.out.z) Tryd.underlying25 rfl size_obj) rfl ?_
  exact ⟨(⟨⟨#[47, 97]⟩, ⟨#[120]⟩, [], 3, -1, [⟨⟨#[109, 97, 105, 110]⟩, [⟨⟨#[99, 112, 117]⟩, 500⟩], []⟩], 7⟩ : Ob), _, _, rfl, D.1, ⟨⟨by decide, by decide⟩, smO_fit.l, smO_fit.p, by decide⟩, by decide +kernel, D.2⟩
set_option maxHeartbeats 8000000 in
set_option maxRecDepth 100000 in
theorem wrong_9 (w : World) : Calls Tryd.prog 5 #[.int .i64 9] w (Wrong w) := by
  have SM := Lib.hid (small_any (w.alloc (.cells #[.string ⟨#[]⟩, .string ⟨#[]⟩, .slice none 0 0, .int .i64 0, .int .i64 0, .slice none 0 0, .int .i64 0] 25)))
  go_enter Tryd.func5, Tryd.ntmps5
  go_wp2_with fail
  refine SM.out.mono ?_
  rintro e W1 ⟨vl, vp, rfl, ho, hb⟩
  clear SM
  obtain ⟨la, lc, hl9, _, _⟩ := ho.obv.l.len
  have hl8 : vl = .slice la 0 lc := hl9
  clear hl9
  subst hl8
  obtain ⟨pa, pc, hp9, _, _⟩ := ho.obv.p.len
  have hp8 : vp = .slice pa 1 pc := hp9
  clear hp9
  subst hp8
  obtain ⟨X, hX⟩ : ∃ X, X = W1.alloc (.cells #[.string ⟨#[47, 97]⟩, .string ⟨#[120]⟩, .slice la 0 lc, .int .i64 3, .int .i64 0, .slice pa 1 pc, .int .i64 7] 25) := ⟨_, rfl⟩
  obtain ⟨bo, hbo⟩ : ∃ bo, bo = W1.heap.size := ⟨_, rfl⟩
  obtain ⟨rs, K0⟩ := WO.start w ((Below.refl _ w).alloc (Nat.le_refl _) _) ho hb hX hbo
  have K := Lib.hid K0
  clear ho hb K0
  unfold Ob.val smO
  simp only
  have hX2 := hX.symm
  have hb2 := hbo.symm
  clear hX hbo
  have cb : ∀ j y, (#[.string ⟨#[47, 97]⟩, .string ⟨#[120]⟩, .slice la 0 lc, .int .i64 3, .int .i64 0, .slice pa 1 pc, .int .i64 7] : Array Value)[j]? = some y → X.cell? ⟨bo, j, none⟩ = some y := fun j y hy => by rw [cell_of_row X bo j _ _ _ K.out.o]; exact hy
  have fz : ∀ j, X.frozen? ⟨bo, j, none⟩ = false := fun j => frozen_of_row _ _ _ _ _ K.out.o
  have c9 := cb 6 _ rfl
  have f9 := fz 6
  obtain ⟨X5, hX5⟩ : ∃ X5, X5 = X.setCell ⟨bo, 6, none⟩ (.int .i64 1152921504606846977) := ⟨_, rfl⟩
  have K5 : Hid (WO w bo (⟨⟨#[47, 97]⟩, ⟨#[120]⟩, [], 3, 0, [⟨⟨#[109, 97, 105, 110]⟩, [⟨⟨#[99, 112, 117]⟩, 500⟩], []⟩], 1152921504606846977⟩ : Ob) (.slice la 0 lc) (.slice pa 1 pc) rs X5) := Lib.hid (by rw [hX5]; exact K.out.into 6 _ rfl K.out.l K.out.p K.out.q)
  have hX6 := hX5.symm
  clear hX5 K cb fz
  have ce : ∀ j y, (#[.string ⟨#[47, 97]⟩, .string ⟨#[120]⟩, .slice la 0 lc, .int .i64 3, .int .i64 0, .slice pa 1 pc, .int .i64 1152921504606846977] : Array Value)[j]? = some y → X5.cell? ⟨bo, j, none⟩ = some y := fun j y hy => by rw [cell_of_row X5 bo j _ _ _ K5.out.o]; exact hy
  have e0 := ce 0 _ rfl
  have e1 := ce 1 _ rfl
  have e2 := ce 2 _ rfl
  have e3 := ce 3 _ rfl
  have e4 := ce 4 _ rfl
  have e5 := ce 5 _ rfl
  have e6 := ce 6 _ rfl
  have ON : Hid ((#[.string ⟨#[47, 97]⟩, .string ⟨#[120]⟩, .slice la 0 lc, .int .i64 3, .int .i64 0, .slice pa 1 pc, .int .i64 1152921504606846977] : Array Value).all (·.oneCell') = true) := Lib.hid (by simp [Value.oneCell'])
  clear ce
  go_wp2_with (refine wpList_store_row rfl 25 (.tmp 2) (.tmp 97) rfl w.heap.size #[.string ⟨#[47, 97]⟩, .string ⟨#[120]⟩, .slice la 0 lc, .int .i64 3, .int .i64 0, .slice pa 1 pc, .int .i64 1152921504606846977] rfl rfl 25 #[.string ⟨#[]⟩, .string ⟨#[]⟩, .slice none 0 0, .int .i64 0, .int .i64 0, .slice none 0 0, .int .i64 0] K5.out.z size_obj rfl ON.out ?_)
  have D := K5.out.done #[.string ⟨#[47, 97]⟩, .string ⟨#[120]⟩, .slice la 0 lc, .int .i64 3, .int .i64 0, .slice pa 1 pc, .int .i64 1152921504606846977]
  refine bodyPost_ret (results_cell_row rfl _ _ w.heap.size 25 #[.string ⟨#[47, 97]⟩, .string ⟨#[120]⟩, .slice la 0 lc, .int .i64 3, .int .i64 0, .slice pa 1 pc, .int .i64 1152921504606846977] (0, 0) _ rfl (setRow_heap _ _ _ _ _ _ K5.out.z) Tryd.underlying25 rfl size_obj) rfl ?_
  exact ⟨(⟨⟨#[47, 97]⟩, ⟨#[120]⟩, [], 3, 0, [⟨⟨#[109, 97, 105, 110]⟩, [⟨⟨#[99, 112, 117]⟩, 500⟩], []⟩], 1152921504606846977⟩ : Ob), _, _, rfl, D.1, ⟨⟨by decide, by decide⟩, smO_fit.l, smO_fit.p, by decide⟩, by decide +kernel, D.2⟩
set_option maxHeartbeats 8000000 in
set_option maxRecDepth 100000 in
theorem wrong_15 (w : World) : Calls Tryd.prog 5 #[.int .i64 15] w (Wrong w) := by
  have SM := Lib.hid (small_any (w.alloc (.cells #[.string ⟨#[]⟩, .string ⟨#[]⟩, .slice none 0 0, .int .i64 0, .int .i64 0, .slice none 0 0, .int .i64 0] 25)))
  go_enter Tryd.func5, Tryd.ntmps5
  go_wp2_with fail
  refine SM.out.mono ?_
  rintro e W1 ⟨vl, vp, rfl, ho, hb⟩
  clear SM
  obtain ⟨la, lc, hl9, _, _⟩ := ho.obv.l.len
  have hl8 : vl = .slice la 0 lc := hl9
  clear hl9
  subst hl8
  obtain ⟨pa, pc, hp9, _, _⟩ := ho.obv.p.len
  have hp8 : vp = .slice pa 1 pc := hp9
  clear hp9
  subst hp8
  obtain ⟨X, hX⟩ : ∃ X, X = W1.alloc (.cells #[.string ⟨#[47, 97]⟩, .string ⟨#[120]⟩, .slice la 0 lc, .int .i64 3, .int .i64 0, .slice pa 1 pc, .int .i64 7] 25) := ⟨_, rfl⟩
  obtain ⟨bo, hbo⟩ : ∃ bo, bo = W1.heap.size := ⟨_, rfl⟩
  obtain ⟨rs, K0⟩ := WO.start w ((Below.refl _ w).alloc (Nat.le_refl _) _) ho hb hX hbo
  have K := Lib.hid K0
  clear ho hb K0
  unfold Ob.val smO
  simp only
  have hX2 := hX.symm
  have hb2 := hbo.symm
  clear hX hbo
  have cb : ∀ j y, (#[.string ⟨#[47, 97]⟩, .string ⟨#[120]⟩, .slice la 0 lc, .int .i64 3, .int .i64 0, .slice pa 1 pc, .int .i64 7] : Array Value)[j]? = some y → X.cell? ⟨bo, j, none⟩ = some y := fun j y hy => by rw [cell_of_row X bo j _ _ _ K.out.o]; exact hy
  have fz : ∀ j, X.frozen? ⟨bo, j, none⟩ = false := fun j => frozen_of_row _ _ _ _ _ K.out.o
  have c9 := cb 6 _ rfl
  have f9 := fz 6
  obtain ⟨X5, hX5⟩ : ∃ X5, X5 = X.setCell ⟨bo, 6, none⟩ (.int .i64 (-1)) := ⟨_, rfl⟩
  have K5 : Hid (WO w bo (⟨⟨#[47, 97]⟩, ⟨#[120]⟩, [], 3, 0, [⟨⟨#[109, 97, 105, 110]⟩, [⟨⟨#[99, 112, 117]⟩, 500⟩], []⟩], -1⟩ : Ob) (.slice la 0 lc) (.slice pa 1 pc) rs X5) := Lib.hid (by rw [hX5]; exact K.out.into 6 _ rfl K.out.l K.out.p K.out.q)
  have hX6 := hX5.symm
  clear hX5 K cb fz
  have ce : ∀ j y, (#[.string ⟨#[47, 97]⟩, .string ⟨#[120]⟩, .slice la 0 lc, .int .i64 3, .int .i64 0, .slice pa 1 pc, .int .i64 (-1)] : Array Value)[j]? = some y → X5.cell? ⟨bo, j, none⟩ = some y := fun j y hy => by rw [cell_of_row X5 bo j _ _ _ K5.out.o]; exact hy
  have e0 := ce 0 _ rfl
  have e1 := ce 1 _ rfl
  have e2 := ce 2 _ rfl
  have e3 := ce 3 _ rfl
  have e4 := ce 4 _ rfl
  have e5 := ce 5 _ rfl
  have e6 := ce 6 _ rfl
  have ON : Hid ((#[.string ⟨#[47, 97]⟩, .string ⟨#[120]⟩, .slice la 0 lc, .int .i64 3, .int .i64 0, .slice pa 1 pc, .int .i64 (-1)] : Array Value).all (·.oneCell') = true) := Lib.hid (by simp [Value.oneCell'])
  clear ce
  go_wp2_with (refine wpList_store_row rfl 25 (.tmp 2) (.tmp 97) rfl w.heap.size #[.string ⟨#[47, 97]⟩, .string ⟨#[120]⟩, .slice la 0 lc, .int .i64 3, .int .i64 0, .slice pa 1 pc, .int .i64 (-1)] rfl rfl 25 #[.string ⟨#[]⟩, .string ⟨#[]⟩, .slice none 0 0, .int .i64 0, .int .i64 0, .slice none 0 0, .int .i64 0] K5.out.z size_obj rfl ON.out ?_)
  have D := K5.out.done #[.string ⟨#[47, 97]⟩, .string ⟨#[120]⟩, .slice la 0 lc, .int .i64 3, .int .i64 0, .slice pa 1 pc, .int .i64 (-1)]
  refine bodyPost_ret (results_cell_row rfl _ _ w.heap.size 25 #[.string ⟨#[47, 97]⟩, .string ⟨#[120]⟩, .slice la 0 lc, .int .i64 3, .int .i64 0, .slice pa 1 pc, .int .i64 (-1)] (0, 0) _ rfl (setRow_heap _ _ _ _ _ _ K5.out.z) Tryd.underlying25 rfl size_obj) rfl ?_
  exact ⟨(⟨⟨#[47, 97]⟩, ⟨#[120]⟩, [], 3, 0, [⟨⟨#[109, 97, 105, 110]⟩, [⟨⟨#[99, 112, 117]⟩, 500⟩], []⟩], -1⟩ : Ob), _, _, rfl, D.1, ⟨⟨by decide, by decide⟩, smO_fit.l, smO_fit.p, by decide⟩, by decide +kernel, D.2⟩
set_option maxHeartbeats 8000000 in
set_option maxRecDepth 100000 in
theorem wrong_4 (w : World) : Calls Tryd.prog 5 #[.int .i64 4] w (Wrong w) := by
  have SM := Lib.hid (small_any (w.alloc (.cells #[.string ⟨#[]⟩, .string ⟨#[]⟩, .slice none 0 0, .int .i64 0, .int .i64 0, .slice none 0 0, .int .i64 0] 25)))
  go_enter Tryd.func5, Tryd.ntmps5
  go_wp2_with fail
  refine SM.out.mono ?_
  rintro e W1 ⟨vl, vp, rfl, ho, hb⟩
  clear SM
  obtain ⟨la, lc, hl9, _, _⟩ := ho.obv.l.len
  have hl8 : vl = .slice la 0 lc := hl9
  clear hl9
  subst hl8
  obtain ⟨pa, pc, hp9, _, _⟩ := ho.obv.p.len
  have hp8 : vp = .slice pa 1 pc := hp9
  clear hp9
  subst hp8
  obtain ⟨X, hX⟩ : ∃ X, X = W1.alloc (.cells #[.string ⟨#[47, 97]⟩, .string ⟨#[120]⟩, .slice la 0 lc, .int .i64 3, .int .i64 0, .slice pa 1 pc, .int .i64 7] 25) := ⟨_, rfl⟩
  obtain ⟨bo, hbo⟩ : ∃ bo, bo = W1.heap.size := ⟨_, rfl⟩
  obtain ⟨rs, K0⟩ := WO.start w ((Below.refl _ w).alloc (Nat.le_refl _) _) ho hb hX hbo
  have K := Lib.hid K0
  clear ho hb K0
  unfold Ob.val smO
  simp only
  have hX2 := hX.symm
  have hb2 := hbo.symm
  clear hX hbo
  have cb : ∀ j y, (#[.string ⟨#[47, 97]⟩, .string ⟨#[120]⟩, .slice la 0 lc, .int .i64 3, .int .i64 0, .slice pa 1 pc, .int .i64 7] : Array Value)[j]? = some y → X.cell? ⟨bo, j, none⟩ = some y := fun j y hy => by rw [cell_of_row X bo j _ _ _ K.out.o]; exact hy
  have fz : ∀ j, X.frozen? ⟨bo, j, none⟩ = false := fun j => frozen_of_row _ _ _ _ _ K.out.o
  have c9 := cb 5 _ rfl
  have LN : Hid ((rs.length + 1) * kPt.b ≤ 140737488355328) := Lib.hid (by have := K.out.q.1; rw [this]; decide)
  have BS : Hid (w.heap.size + 1 ≤ X.heap.size) := Lib.hid (by have := lt_of_some K.out.o; have := K.out.bs; omega)
  clear cb fz
  go_wp2_with (at_builtin; refine app_rowB okPt (gg := X.heap.size) rfl _ _ rfl rfl K.out.p BS.out ⟨⟨#[109, 97, 105, 110]⟩, ⟨none, 0, 0⟩, ⟨none, 0, 0⟩⟩ ?hgg rfl rfl LN.out ?_)
  case hgg => simp
  intro v' w' h1 h2
  obtain ⟨a2, c2, hv2⟩ := h1.slice
  have hv3 : v' = .slice a2 2 c2 := by rw [hv2, List.length_append, K.out.q.1]; rfl
  clear hv2
  subst hv3
  have GN := Lib.hid (K.out.grown h2)
  have z2 : w'.cell? ⟨bo, 5, none⟩ = some (.slice pa 1 pc) := by rw [cell_of_row w' _ 5 _ _ _ GN.out]; rfl
  have f2 : w'.frozen? ⟨bo, 5, none⟩ = false := frozen_of_row _ _ _ _ _ GN.out
  obtain ⟨X5, hX5⟩ : ∃ X5, X5 = w'.setCell ⟨bo, 5, none⟩ (.slice a2 2 c2) := ⟨_, rfl⟩
  have K5 : Hid (WO w bo (⟨⟨#[47, 97]⟩, ⟨#[120]⟩, [], 3, 0, [⟨⟨#[109, 97, 105, 110]⟩, [⟨⟨#[99, 112, 117]⟩, 500⟩], []⟩, ⟨⟨#[109, 97, 105, 110]⟩, [], []⟩], 7⟩ : Ob) (.slice la 0 lc) (.slice a2 2 c2) (rs ++ [⟨⟨#[109, 97, 105, 110]⟩, ⟨none, 0, 0⟩, ⟨none, 0, 0⟩⟩]) X5) := Lib.hid (by rw [hX5]; exact K.out.part (y := ⟨⟨#[109, 97, 105, 110]⟩, [], []⟩) h1 h2 rfl (OwnR.nil _ _ _) (OwnR.nil _ _ _))
  have hX6 := hX5.symm
  clear hX5 K h1 h2 GN c9 hX2 hb2 LN BS
  have ce : ∀ j y, (#[.string ⟨#[47, 97]⟩, .string ⟨#[120]⟩, .slice la 0 lc, .int .i64 3, .int .i64 0, .slice a2 2 c2, .int .i64 7] : Array Value)[j]? = some y → X5.cell? ⟨bo, j, none⟩ = some y := fun j y hy => by rw [cell_of_row X5 bo j _ _ _ K5.out.o]; exact hy
  have e0 := ce 0 _ rfl
  have e1 := ce 1 _ rfl
  have e2 := ce 2 _ rfl
  have e3 := ce 3 _ rfl
  have e4 := ce 4 _ rfl
  have e5 := ce 5 _ rfl
  have e6 := ce 6 _ rfl
  have ON : Hid ((#[.string ⟨#[47, 97]⟩, .string ⟨#[120]⟩, .slice la 0 lc, .int .i64 3, .int .i64 0, .slice a2 2 c2, .int .i64 7] : Array Value).all (·.oneCell') = true) := Lib.hid (by simp [Value.oneCell'])
  clear ce
  go_wp2_with (refine wpList_store_row rfl 25 (.tmp 2) (.tmp 97) rfl w.heap.size #[.string ⟨#[47, 97]⟩, .string ⟨#[120]⟩, .slice la 0 lc, .int .i64 3, .int .i64 0, .slice a2 2 c2, .int .i64 7] rfl rfl 25 #[.string ⟨#[]⟩, .string ⟨#[]⟩, .slice none 0 0, .int .i64 0, .int .i64 0, .slice none 0 0, .int .i64 0] K5.out.z size_obj rfl ON.out ?_)
  have D := K5.out.done #[.string ⟨#[47, 97]⟩, .string ⟨#[120]⟩, .slice la 0 lc, .int .i64 3, .int .i64 0, .slice a2 2 c2, .int .i64 7]
  refine bodyPost_ret (results_cell_row rfl _ _ w.heap.size 25 #[.string ⟨#[47, 97]⟩, .string ⟨#[120]⟩, .slice la 0 lc, .int .i64 3, .int .i64 0, .slice a2 2 c2, .int .i64 7] (0, 0) _ rfl (setRow_heap _ _ _ _ _ _ K5.out.z) Tryd.underlying25 rfl size_obj) rfl ?_
  exact ⟨(⟨⟨#[47, 97]⟩, ⟨#[120]⟩, [], 3, 0, [⟨⟨#[109, 97, 105, 110]⟩, [⟨⟨#[99, 112, 117]⟩, 500⟩], []⟩, ⟨⟨#[109, 97, 105, 110]⟩, [], []⟩], 7⟩ : Ob), _, _, rfl, D.1, ⟨⟨by decide, by decide⟩, smO_fit.l, fun x hx => by
    rcases List.mem_append.1 (show x ∈ smO.ps ++ [_] from hx) with q | q
    · exact smO_fit.p x q
    · rw [List.mem_singleton.1 q]; exact ⟨by decide, fun y hy => by simp at hy, fun y hy => by simp at hy⟩, by decide⟩, by decide +kernel, D.2⟩
set_option maxHeartbeats 8000000 in
set_option maxRecDepth 100000 in
theorem wrong_5 (w : World) : Calls Tryd.prog 5 #[.int .i64 5] w (Wrong w) := by
  have SM := Lib.hid (small_any (w.alloc (.cells #[.string ⟨#[]⟩, .string ⟨#[]⟩, .slice none 0 0, .int .i64 0, .int .i64 0, .slice none 0 0, .int .i64 0] 25)))
  go_enter Tryd.func5, Tryd.ntmps5
  go_wp2_with fail
  refine SM.out.mono ?_
  rintro e W1 ⟨vl, vp, rfl, ho, hb⟩
  clear SM
  obtain ⟨la, lc, hl9, _, _⟩ := ho.obv.l.len
  have hl8 : vl = .slice la 0 lc := hl9
  clear hl9
  subst hl8
  obtain ⟨pa, pc, hp9, _, _⟩ := ho.obv.p.len
  have hp8 : vp = .slice pa 1 pc := hp9
  clear hp9
  subst hp8
  obtain ⟨X, hX⟩ : ∃ X, X = W1.alloc (.cells #[.string ⟨#[47, 97]⟩, .string ⟨#[120]⟩, .slice la 0 lc, .int .i64 3, .int .i64 0, .slice pa 1 pc, .int .i64 7] 25) := ⟨_, rfl⟩
  obtain ⟨bo, hbo⟩ : ∃ bo, bo = W1.heap.size := ⟨_, rfl⟩
  obtain ⟨rs, K0⟩ := WO.start w ((Below.refl _ w).alloc (Nat.le_refl _) _) ho hb hX hbo
  have K := Lib.hid K0
  clear ho hb K0
  unfold Ob.val smO
  simp only
  have hX2 := hX.symm
  have hb2 := hbo.symm
  clear hX hbo
  have cb : ∀ j y, (#[.string ⟨#[47, 97]⟩, .string ⟨#[120]⟩, .slice la 0 lc, .int .i64 3, .int .i64 0, .slice pa 1 pc, .int .i64 7] : Array Value)[j]? = some y → X.cell? ⟨bo, j, none⟩ = some y := fun j y hy => by rw [cell_of_row X bo j _ _ _ K.out.o]; exact hy
  have fz : ∀ j, X.frozen? ⟨bo, j, none⟩ = false := fun j => frozen_of_row _ _ _ _ _ K.out.o
  have c9 := cb 5 _ rfl
  have LN : Hid ((rs.length + 1) * kPt.b ≤ 140737488355328) := Lib.hid (by have := K.out.q.1; rw [this]; decide)
  have BS : Hid (w.heap.size + 1 ≤ X.heap.size) := Lib.hid (by have := lt_of_some K.out.o; have := K.out.bs; omega)
  clear cb fz
  go_wp2_with (at_builtin; refine app_rowB okPt (gg := X.heap.size) rfl _ _ rfl rfl K.out.p BS.out ⟨⟨#[97]⟩, ⟨none, 0, 0⟩, ⟨none, 0, 0⟩⟩ ?hgg rfl rfl LN.out ?_)
  case hgg => simp
  intro v' w' h1 h2
  obtain ⟨a2, c2, hv2⟩ := h1.slice
  have hv3 : v' = .slice a2 2 c2 := by rw [hv2, List.length_append, K.out.q.1]; rfl
  clear hv2
  subst hv3
  have GN := Lib.hid (K.out.grown h2)
  have z2 : w'.cell? ⟨bo, 5, none⟩ = some (.slice pa 1 pc) := by rw [cell_of_row w' _ 5 _ _ _ GN.out]; rfl
  have f2 : w'.frozen? ⟨bo, 5, none⟩ = false := frozen_of_row _ _ _ _ _ GN.out
  obtain ⟨X5, hX5⟩ : ∃ X5, X5 = w'.setCell ⟨bo, 5, none⟩ (.slice a2 2 c2) := ⟨_, rfl⟩
  have K5 : Hid (WO w bo (⟨⟨#[47, 97]⟩, ⟨#[120]⟩, [], 3, 0, [⟨⟨#[109, 97, 105, 110]⟩, [⟨⟨#[99, 112, 117]⟩, 500⟩], []⟩, ⟨⟨#[97]⟩, [], []⟩], 7⟩ : Ob) (.slice la 0 lc) (.slice a2 2 c2) (rs ++ [⟨⟨#[97]⟩, ⟨none, 0, 0⟩, ⟨none, 0, 0⟩⟩]) X5) := Lib.hid (by rw [hX5]; exact K.out.part (y := ⟨⟨#[97]⟩, [], []⟩) h1 h2 rfl (OwnR.nil _ _ _) (OwnR.nil _ _ _))
  have hX6 := hX5.symm
  clear hX5 K h1 h2 GN c9 hX2 hb2 LN BS
  have ce : ∀ j y, (#[.string ⟨#[47, 97]⟩, .string ⟨#[120]⟩, .slice la 0 lc, .int .i64 3, .int .i64 0, .slice a2 2 c2, .int .i64 7] : Array Value)[j]? = some y → X5.cell? ⟨bo, j, none⟩ = some y := fun j y hy => by rw [cell_of_row X5 bo j _ _ _ K5.out.o]; exact hy
  have e0 := ce 0 _ rfl
  have e1 := ce 1 _ rfl
  have e2 := ce 2 _ rfl
  have e3 := ce 3 _ rfl
  have e4 := ce 4 _ rfl
  have e5 := ce 5 _ rfl
  have e6 := ce 6 _ rfl
  have ON : Hid ((#[.string ⟨#[47, 97]⟩, .string ⟨#[120]⟩, .slice la 0 lc, .int .i64 3, .int .i64 0, .slice a2 2 c2, .int .i64 7] : Array Value).all (·.oneCell') = true) := Lib.hid (by simp [Value.oneCell'])
  clear ce
  go_wp2_with (refine wpList_store_row rfl 25 (.tmp 2) (.tmp 97) rfl w.heap.size #[.string ⟨#[47, 97]⟩, .string ⟨#[120]⟩, .slice la 0 lc, .int .i64 3, .int .i64 0, .slice a2 2 c2, .int .i64 7] rfl rfl 25 #[.string ⟨#[]⟩, .string ⟨#[]⟩, .slice none 0 0, .int .i64 0, .int .i64 0, .slice none 0 0, .int .i64 0] K5.out.z size_obj rfl ON.out ?_)
  have D := K5.out.done #[.string ⟨#[47, 97]⟩, .string ⟨#[120]⟩, .slice la 0 lc, .int .i64 3, .int .i64 0, .slice a2 2 c2, .int .i64 7]
  refine bodyPost_ret (results_cell_row rfl _ _ w.heap.size 25 #[.string ⟨#[47, 97]⟩, .string ⟨#[120]⟩, .slice la 0 lc, .int .i64 3, .int .i64 0, .slice a2 2 c2, .int .i64 7] (0, 0) _ rfl (setRow_heap _ _ _ _ _ _ K5.out.z) Tryd.underlying25 rfl size_obj) rfl ?_
  exact ⟨(⟨⟨#[47, 97]⟩, ⟨#[120]⟩, [], 3, 0, [⟨⟨#[109, 97, 105, 110]⟩, [⟨⟨#[99, 112, 117]⟩, 500⟩], []⟩, ⟨⟨#[97]⟩, [], []⟩], 7⟩ : Ob), _, _, rfl, D.1, ⟨⟨by decide, by decide⟩, smO_fit.l, fun x hx => by
    rcases List.mem_append.1 (show x ∈ smO.ps ++ [_] from hx) with q | q
    · exact smO_fit.p x q
    · rw [List.mem_singleton.1 q]; exact ⟨by decide, fun y hy => by simp at hy, fun y hy => by simp at hy⟩, by decide⟩, by decide +kernel, D.2⟩
set_option maxHeartbeats 8000000 in
set_option maxRecDepth 100000 in
theorem wrong_10 (w : World) : Calls Tryd.prog 5 #[.int .i64 10] w (Wrong w) := by
  have SM := Lib.hid (small_any (w.alloc (.cells #[.string ⟨#[]⟩, .string ⟨#[]⟩, .slice none 0 0, .int .i64 0, .int .i64 0, .slice none 0 0, .int .i64 0] 25)))
  go_enter Tryd.func5, Tryd.ntmps5
  go_wp2_with fail
  refine SM.out.mono ?_
  rintro e W1 ⟨vl, vp, rfl, ho, hb⟩
  clear SM
  obtain ⟨la, lc, hl9, _, _⟩ := ho.obv.l.len
  have hl8 : vl = .slice la 0 lc := hl9
  clear hl9
  subst hl8
  obtain ⟨pa, pc, hp9, _, _⟩ := ho.obv.p.len
  have hp8 : vp = .slice pa 1 pc := hp9
  clear hp9
  subst hp8
  obtain ⟨X, hX⟩ : ∃ X, X = W1.alloc (.cells #[.string ⟨#[47, 97]⟩, .string ⟨#[120]⟩, .slice la 0 lc, .int .i64 3, .int .i64 0, .slice pa 1 pc, .int .i64 7] 25) := ⟨_, rfl⟩
  obtain ⟨bo, hbo⟩ : ∃ bo, bo = W1.heap.size := ⟨_, rfl⟩
  obtain ⟨rs, K0⟩ := WO.start w ((Below.refl _ w).alloc (Nat.le_refl _) _) ho hb hX hbo
  have K := Lib.hid K0
  clear ho hb K0
  unfold Ob.val smO
  simp only
  have hX2 := hX.symm
  have hb2 := hbo.symm
  clear hX hbo
  have cb : ∀ j y, (#[.string ⟨#[47, 97]⟩, .string ⟨#[120]⟩, .slice la 0 lc, .int .i64 3, .int .i64 0, .slice pa 1 pc, .int .i64 7] : Array Value)[j]? = some y → X.cell? ⟨bo, j, none⟩ = some y := fun j y hy => by rw [cell_of_row X bo j _ _ _ K.out.o]; exact hy
  have fz : ∀ j, X.frozen? ⟨bo, j, none⟩ = false := fun j => frozen_of_row _ _ _ _ _ K.out.o
  obtain ⟨r, hr⟩ : ∃ r, rs = [r] := by
    have := K.out.q.1
    match rs, this with
    | [r], _ => exact ⟨r, rfl⟩
  subst hr
  have hq0 := K.out.q.2 0 (by show 0 < 1; decide)
  obtain ⟨g, hg⟩ : ∃ g, pa = some ⟨g, 0, none⟩ := by
    obtain ⟨_, ⟨_, hn⟩ | ⟨g, cap, cur, hv, _⟩⟩ := K.out.p
    · simp at hn
    · simp only [Value.slice.injEq] at hv; exact ⟨g, hv.1⟩
  subst hg
  obtain ⟨gn, hgn⟩ : ∃ gn, gn = X.heap.size := ⟨_, rfl⟩
  obtain ⟨X3, hX3⟩ : ∃ X3, X3 = X.alloc (.cells #[.string ⟨#[109, 101, 109]⟩, .int .i64 1, .string ⟨#[99, 112, 117]⟩, .int .i64 1] 45) := ⟨_, rfl⟩
  have A3 : Below X.heap.size X X3 := by rw [hX3]; exact (Below.refl _ _).alloc (Nat.le_refl _) _
  have K3 := K.out.below A3
  have R3 : OwnR kAm (w.heap.size + 1) X3 (.slice (some ⟨gn, 0, none⟩) 2 2) [⟨⟨#[109, 101, 109]⟩, 1⟩, ⟨⟨#[99, 112, 117]⟩, 1⟩] := by
    rw [hX3, hgn]
    have q9 : OwnR kAm X.heap.size (X.alloc (.cells #[.string ⟨#[109, 101, 109]⟩, .int .i64 1, .string ⟨#[99, 112, 117]⟩, .int .i64 1] 45)) (.slice (some ⟨X.heap.size, 0, none⟩) 2 2) [⟨⟨#[109, 101, 109]⟩, 1⟩, ⟨⟨#[99, 112, 117]⟩, 1⟩] := row_built X ([⟨⟨#[109, 101, 109]⟩, 1⟩, ⟨⟨#[99, 112, 117]⟩, 1⟩] : List Am) okAm (by rfl) (by rfl) (by show 2 ≤ maxLen; decide)
    exact q9.mono (by have := lt_of_some K.out.o; have := K.out.bs; omega)
  obtain ⟨X5, hX5⟩ : ∃ X5, X5 = X3.setCell ⟨g, 1, none⟩ (.slice (some ⟨gn, 0, none⟩) 2 2) := ⟨_, rfl⟩
  have q3 := K3.q.2 0 (by show 0 < 1; decide)
  have K5 : Hid (WO w bo (⟨⟨#[47, 97]⟩, ⟨#[120]⟩, [], 3, 0, [⟨⟨#[109, 97, 105, 110]⟩, [⟨⟨#[109, 101, 109]⟩, 1⟩, ⟨⟨#[99, 112, 117]⟩, 1⟩], []⟩], 7⟩ : Ob) (.slice la 0 lc) (.slice (some ⟨g, 0, none⟩) 1 pc) [⟨r.n, ⟨some ⟨gn, 0, none⟩, 2, 2⟩, r.l⟩] X5) := Lib.hid (by
    rw [hX5]
    exact K3.elem 1 _ rfl rfl ⟨rfl, fun k hk => by
      obtain rfl : k = 0 := by simpa using hk
      exact ⟨q3.1, R3, q3.2.2⟩⟩)
  have c9 := cb 5 _ rfl
  have c8 : X3.cell? ⟨bo, 5, none⟩ = some (.slice (some ⟨g, 0, none⟩) 1 pc) := by rw [cell_of_row X3 bo 5 _ _ _ K3.o]; rfl
  obtain ⟨b9, off9, ea, hc9⟩ := (K3.p.row okPt).at 0 (by show 0 < 1; decide)
  simp only [Option.some.injEq, Addr.mk.injEq, and_true] at ea
  obtain ⟨rfl, rfl⟩ := ea
  have d9 : X3.cell? ⟨g, 1, none⟩ = some (r.r.v) := by have := hc9 1 _ rfl; simpa using this
  have fz3 : X3.frozen? ⟨g, 1, none⟩ = false := by
    obtain ⟨cs, m, hb9⟩ := K3.p.ty g rfl
    obtain ⟨_, ⟨_, hn⟩ | ⟨g', cap, cur, hv, _, hg', _⟩⟩ := K3.p
    · simp at hn
    · simp only [Value.slice.injEq, Option.some.injEq, Addr.mk.injEq, and_true] at hv
      obtain ⟨rfl, _⟩ := hv
      exact frozen_of_row _ _ _ _ _ hg'
  have hX4 := hX3.symm
  have hX6 := hX5.symm
  have hgn2 := hgn.symm
  clear hX5 hX3 hgn K K3 A3 R3 q3 hq0 cb fz hc9
  have ce : ∀ j y, (#[.string ⟨#[47, 97]⟩, .string ⟨#[120]⟩, .slice la 0 lc, .int .i64 3, .int .i64 0, .slice (some ⟨g, 0, none⟩) 1 pc, .int .i64 7] : Array Value)[j]? = some y → X5.cell? ⟨bo, j, none⟩ = some y := fun j y hy => by rw [cell_of_row X5 bo j _ _ _ K5.out.o]; exact hy
  have e0 := ce 0 _ rfl
  have e1 := ce 1 _ rfl
  have e2 := ce 2 _ rfl
  have e3 := ce 3 _ rfl
  have e4 := ce 4 _ rfl
  have e5 := ce 5 _ rfl
  have e6 := ce 6 _ rfl
  have ON : Hid ((#[.string ⟨#[47, 97]⟩, .string ⟨#[120]⟩, .slice la 0 lc, .int .i64 3, .int .i64 0, .slice (some ⟨g, 0, none⟩) 1 pc, .int .i64 7] : Array Value).all (·.oneCell') = true) := Lib.hid (by simp [Value.oneCell'])
  clear ce
  go_wp2_with (refine wpList_store_row rfl 25 (.tmp 2) (.tmp 97) rfl w.heap.size #[.string ⟨#[47, 97]⟩, .string ⟨#[120]⟩, .slice la 0 lc, .int .i64 3, .int .i64 0, .slice (some ⟨g, 0, none⟩) 1 pc, .int .i64 7] rfl rfl 25 #[.string ⟨#[]⟩, .string ⟨#[]⟩, .slice none 0 0, .int .i64 0, .int .i64 0, .slice none 0 0, .int .i64 0] K5.out.z size_obj rfl ON.out ?_)
  have D := K5.out.done #[.string ⟨#[47, 97]⟩, .string ⟨#[120]⟩, .slice la 0 lc, .int .i64 3, .int .i64 0, .slice (some ⟨g, 0, none⟩) 1 pc, .int .i64 7]
  refine bodyPost_ret (results_cell_row rfl _ _ w.heap.size 25 #[.string ⟨#[47, 97]⟩, .string ⟨#[120]⟩, .slice la 0 lc, .int .i64 3, .int .i64 0, .slice (some ⟨g, 0, none⟩) 1 pc, .int .i64 7] (0, 0) _ rfl (setRow_heap _ _ _ _ _ _ K5.out.z) Tryd.underlying25 rfl size_obj) rfl ?_
  exact ⟨(⟨⟨#[47, 97]⟩, ⟨#[120]⟩, [], 3, 0, [⟨⟨#[109, 97, 105, 110]⟩, [⟨⟨#[109, 101, 109]⟩, 1⟩, ⟨⟨#[99, 112, 117]⟩, 1⟩], []⟩], 7⟩ : Ob), _, _, rfl, D.1, ⟨⟨by decide, by decide⟩, smO_fit.l, fun x hx => (by
    rw [List.mem_singleton.1 hx]
    refine ⟨by decide, fun y hy => ?_, fun y hy => ?_⟩ <;> (first | (simp at hy; done) | (simp only [List.mem_cons, List.not_mem_nil, or_false] at hy; rcases hy with rfl | rfl <;> exact ⟨by decide, by decide, by decide⟩) | (simp only [List.mem_cons, List.not_mem_nil, or_false] at hy; subst hy; exact ⟨by decide, by decide, by decide⟩))), by decide⟩, by decide +kernel, D.2⟩
set_option maxHeartbeats 8000000 in
set_option maxRecDepth 100000 in
theorem wrong_11 (w : World) : Calls Tryd.prog 5 #[.int .i64 11] w (Wrong w) := by
  have SM := Lib.hid (small_any (w.alloc (.cells #[.string ⟨#[]⟩, .string ⟨#[]⟩, .slice none 0 0, .int .i64 0, .int .i64 0, .slice none 0 0, .int .i64 0] 25)))
  go_enter Tryd.func5, Tryd.ntmps5
  go_wp2_with fail
  refine SM.out.mono ?_
  rintro e W1 ⟨vl, vp, rfl, ho, hb⟩
  clear SM
  obtain ⟨la, lc, hl9, _, _⟩ := ho.obv.l.len
  have hl8 : vl = .slice la 0 lc := hl9
  clear hl9
  subst hl8
  obtain ⟨pa, pc, hp9, _, _⟩ := ho.obv.p.len
  have hp8 : vp = .slice pa 1 pc := hp9
  clear hp9
  subst hp8
  obtain ⟨X, hX⟩ : ∃ X, X = W1.alloc (.cells #[.string ⟨#[47, 97]⟩, .string ⟨#[120]⟩, .slice la 0 lc, .int .i64 3, .int .i64 0, .slice pa 1 pc, .int .i64 7] 25) := ⟨_, rfl⟩
  obtain ⟨bo, hbo⟩ : ∃ bo, bo = W1.heap.size := ⟨_, rfl⟩
  obtain ⟨rs, K0⟩ := WO.start w ((Below.refl _ w).alloc (Nat.le_refl _) _) ho hb hX hbo
  have K := Lib.hid K0
  clear ho hb K0
  unfold Ob.val smO
  simp only
  have hX2 := hX.symm
  have hb2 := hbo.symm
  clear hX hbo
  have cb : ∀ j y, (#[.string ⟨#[47, 97]⟩, .string ⟨#[120]⟩, .slice la 0 lc, .int .i64 3, .int .i64 0, .slice pa 1 pc, .int .i64 7] : Array Value)[j]? = some y → X.cell? ⟨bo, j, none⟩ = some y := fun j y hy => by rw [cell_of_row X bo j _ _ _ K.out.o]; exact hy
  have fz : ∀ j, X.frozen? ⟨bo, j, none⟩ = false := fun j => frozen_of_row _ _ _ _ _ K.out.o
  obtain ⟨r, hr⟩ : ∃ r, rs = [r] := by
    have := K.out.q.1
    match rs, this with
    | [r], _ => exact ⟨r, rfl⟩
  subst hr
  have hq0 := K.out.q.2 0 (by show 0 < 1; decide)
  obtain ⟨g, hg⟩ : ∃ g, pa = some ⟨g, 0, none⟩ := by
    obtain ⟨_, ⟨_, hn⟩ | ⟨g, cap, cur, hv, _⟩⟩ := K.out.p
    · simp at hn
    · simp only [Value.slice.injEq] at hv; exact ⟨g, hv.1⟩
  subst hg
  obtain ⟨gn, hgn⟩ : ∃ gn, gn = X.heap.size := ⟨_, rfl⟩
  obtain ⟨X3, hX3⟩ : ∃ X3, X3 = X.alloc (.cells #[.string ⟨#[99, 112, 117]⟩, .int .i64 (-1)] 45) := ⟨_, rfl⟩
  have A3 : Below X.heap.size X X3 := by rw [hX3]; exact (Below.refl _ _).alloc (Nat.le_refl _) _
  have K3 := K.out.below A3
  have R3 : OwnR kAm (w.heap.size + 1) X3 (.slice (some ⟨gn, 0, none⟩) 1 1) [⟨⟨#[99, 112, 117]⟩, (-1)⟩] := by
    rw [hX3, hgn]
    have q9 : OwnR kAm X.heap.size (X.alloc (.cells #[.string ⟨#[99, 112, 117]⟩, .int .i64 (-1)] 45)) (.slice (some ⟨X.heap.size, 0, none⟩) 1 1) [⟨⟨#[99, 112, 117]⟩, (-1)⟩] := row_built X ([⟨⟨#[99, 112, 117]⟩, (-1)⟩] : List Am) okAm (by rfl) (by rfl) (by show 1 ≤ maxLen; decide)
    exact q9.mono (by have := lt_of_some K.out.o; have := K.out.bs; omega)
  obtain ⟨X5, hX5⟩ : ∃ X5, X5 = X3.setCell ⟨g, 2, none⟩ (.slice (some ⟨gn, 0, none⟩) 1 1) := ⟨_, rfl⟩
  have q3 := K3.q.2 0 (by show 0 < 1; decide)
  have K5 : Hid (WO w bo (⟨⟨#[47, 97]⟩, ⟨#[120]⟩, [], 3, 0, [⟨⟨#[109, 97, 105, 110]⟩, [⟨⟨#[99, 112, 117]⟩, 500⟩], [⟨⟨#[99, 112, 117]⟩, (-1)⟩]⟩], 7⟩ : Ob) (.slice la 0 lc) (.slice (some ⟨g, 0, none⟩) 1 pc) [⟨r.n, r.r, ⟨some ⟨gn, 0, none⟩, 1, 1⟩⟩] X5) := Lib.hid (by
    rw [hX5]
    exact K3.elem 2 _ rfl rfl ⟨rfl, fun k hk => by
      obtain rfl : k = 0 := by simpa using hk
      exact ⟨q3.1, q3.2.1, R3⟩⟩)
  have c9 := cb 5 _ rfl
  have c8 : X3.cell? ⟨bo, 5, none⟩ = some (.slice (some ⟨g, 0, none⟩) 1 pc) := by rw [cell_of_row X3 bo 5 _ _ _ K3.o]; rfl
  obtain ⟨b9, off9, ea, hc9⟩ := (K3.p.row okPt).at 0 (by show 0 < 1; decide)
  simp only [Option.some.injEq, Addr.mk.injEq, and_true] at ea
  obtain ⟨rfl, rfl⟩ := ea
  have d9 : X3.cell? ⟨g, 2, none⟩ = some (r.l.v) := by have := hc9 2 _ rfl; simpa using this
  have fz3 : X3.frozen? ⟨g, 2, none⟩ = false := by
    obtain ⟨cs, m, hb9⟩ := K3.p.ty g rfl
    obtain ⟨_, ⟨_, hn⟩ | ⟨g', cap, cur, hv, _, hg', _⟩⟩ := K3.p
    · simp at hn
    · simp only [Value.slice.injEq, Option.some.injEq, Addr.mk.injEq, and_true] at hv
      obtain ⟨rfl, _⟩ := hv
      exact frozen_of_row _ _ _ _ _ hg'
  have hX4 := hX3.symm
  have hX6 := hX5.symm
  have hgn2 := hgn.symm
  clear hX5 hX3 hgn K K3 A3 R3 q3 hq0 cb fz hc9
  have ce : ∀ j y, (#[.string ⟨#[47, 97]⟩, .string ⟨#[120]⟩, .slice la 0 lc, .int .i64 3, .int .i64 0, .slice (some ⟨g, 0, none⟩) 1 pc, .int .i64 7] : Array Value)[j]? = some y → X5.cell? ⟨bo, j, none⟩ = some y := fun j y hy => by rw [cell_of_row X5 bo j _ _ _ K5.out.o]; exact hy
  have e0 := ce 0 _ rfl
  have e1 := ce 1 _ rfl
  have e2 := ce 2 _ rfl
  have e3 := ce 3 _ rfl
  have e4 := ce 4 _ rfl
  have e5 := ce 5 _ rfl
  have e6 := ce 6 _ rfl
  have ON : Hid ((#[.string ⟨#[47, 97]⟩, .string ⟨#[120]⟩, .slice la 0 lc, .int .i64 3, .int .i64 0, .slice (some ⟨g, 0, none⟩) 1 pc, .int .i64 7] : Array Value).all (·.oneCell') = true) := Lib.hid (by simp [Value.oneCell'])
  clear ce
  go_wp2_with (refine wpList_store_row rfl 25 (.tmp 2) (.tmp 97) rfl w.heap.size #[.string ⟨#[47, 97]⟩, .string ⟨#[120]⟩, .slice la 0 lc, .int .i64 3, .int .i64 0, .slice (some ⟨g, 0, none⟩) 1 pc, .int .i64 7] rfl rfl 25 #[.string ⟨#[]⟩, .string ⟨#[]⟩, .slice none 0 0, .int .i64 0, .int .i64 0, .slice none 0 0, .int .i64 0] K5.out.z size_obj rfl ON.out ?_)
  have D := K5.out.done #[.string ⟨#[47, 97]⟩, .string ⟨#[120]⟩, .slice la 0 lc, .int .i64 3, .int .i64 0, .slice (some ⟨g, 0, none⟩) 1 pc, .int .i64 7]
  refine bodyPost_ret (results_cell_row rfl _ _ w.heap.size 25 #[.string ⟨#[47, 97]⟩, .string ⟨#[120]⟩, .slice la 0 lc, .int .i64 3, .int .i64 0, .slice (some ⟨g, 0, none⟩) 1 pc, .int .i64 7] (0, 0) _ rfl (setRow_heap _ _ _ _ _ _ K5.out.z) Tryd.underlying25 rfl size_obj) rfl ?_
  exact ⟨(⟨⟨#[47, 97]⟩, ⟨#[120]⟩, [], 3, 0, [⟨⟨#[109, 97, 105, 110]⟩, [⟨⟨#[99, 112, 117]⟩, 500⟩], [⟨⟨#[99, 112, 117]⟩, (-1)⟩]⟩], 7⟩ : Ob), _, _, rfl, D.1, ⟨⟨by decide, by decide⟩, smO_fit.l, fun x hx => (by
    rw [List.mem_singleton.1 hx]
    refine ⟨by decide, fun y hy => ?_, fun y hy => ?_⟩ <;> (first | (simp at hy; done) | (simp only [List.mem_cons, List.not_mem_nil, or_false] at hy; rcases hy with rfl | rfl <;> exact ⟨by decide, by decide, by decide⟩) | (simp only [List.mem_cons, List.not_mem_nil, or_false] at hy; subst hy; exact ⟨by decide, by decide, by decide⟩))), by decide⟩, by decide +kernel, D.2⟩
set_option maxHeartbeats 8000000 in
set_option maxRecDepth 100000 in
theorem wrong_12 (w : World) : Calls Tryd.prog 5 #[.int .i64 12] w (Wrong w) := by
  have SM := Lib.hid (small_any (w.alloc (.cells #[.string ⟨#[]⟩, .string ⟨#[]⟩, .slice none 0 0, .int .i64 0, .int .i64 0, .slice none 0 0, .int .i64 0] 25)))
  go_enter Tryd.func5, Tryd.ntmps5
  go_wp2_with fail
  refine SM.out.mono ?_
  rintro e W1 ⟨vl, vp, rfl, ho, hb⟩
  clear SM
  obtain ⟨la, lc, hl9, _, _⟩ := ho.obv.l.len
  have hl8 : vl = .slice la 0 lc := hl9
  clear hl9
  subst hl8
  obtain ⟨pa, pc, hp9, _, _⟩ := ho.obv.p.len
  have hp8 : vp = .slice pa 1 pc := hp9
  clear hp9
  subst hp8
  obtain ⟨X, hX⟩ : ∃ X, X = W1.alloc (.cells #[.string ⟨#[47, 97]⟩, .string ⟨#[120]⟩, .slice la 0 lc, .int .i64 3, .int .i64 0, .slice pa 1 pc, .int .i64 7] 25) := ⟨_, rfl⟩
  obtain ⟨bo, hbo⟩ : ∃ bo, bo = W1.heap.size := ⟨_, rfl⟩
  obtain ⟨rs, K0⟩ := WO.start w ((Below.refl _ w).alloc (Nat.le_refl _) _) ho hb hX hbo
  have K := Lib.hid K0
  clear ho hb K0
  unfold Ob.val smO
  simp only
  have hX2 := hX.symm
  have hb2 := hbo.symm
  clear hX hbo
  have cb : ∀ j y, (#[.string ⟨#[47, 97]⟩, .string ⟨#[120]⟩, .slice la 0 lc, .int .i64 3, .int .i64 0, .slice pa 1 pc, .int .i64 7] : Array Value)[j]? = some y → X.cell? ⟨bo, j, none⟩ = some y := fun j y hy => by rw [cell_of_row X bo j _ _ _ K.out.o]; exact hy
  have fz : ∀ j, X.frozen? ⟨bo, j, none⟩ = false := fun j => frozen_of_row _ _ _ _ _ K.out.o
  obtain ⟨r, hr⟩ : ∃ r, rs = [r] := by
    have := K.out.q.1
    match rs, this with
    | [r], _ => exact ⟨r, rfl⟩
  subst hr
  have hq0 := K.out.q.2 0 (by show 0 < 1; decide)
  obtain ⟨g, hg⟩ : ∃ g, pa = some ⟨g, 0, none⟩ := by
    obtain ⟨_, ⟨_, hn⟩ | ⟨g, cap, cur, hv, _⟩⟩ := K.out.p
    · simp at hn
    · simp only [Value.slice.injEq] at hv; exact ⟨g, hv.1⟩
  subst hg
  obtain ⟨gn, hgn⟩ : ∃ gn, gn = X.heap.size := ⟨_, rfl⟩
  obtain ⟨X3, hX3⟩ : ∃ X3, X3 = X.alloc (.cells #[.string ⟨#[67, 80, 85]⟩, .int .i64 1] 45) := ⟨_, rfl⟩
  have A3 : Below X.heap.size X X3 := by rw [hX3]; exact (Below.refl _ _).alloc (Nat.le_refl _) _
  have K3 := K.out.below A3
  have R3 : OwnR kAm (w.heap.size + 1) X3 (.slice (some ⟨gn, 0, none⟩) 1 1) [⟨⟨#[67, 80, 85]⟩, 1⟩] := by
    rw [hX3, hgn]
    have q9 : OwnR kAm X.heap.size (X.alloc (.cells #[.string ⟨#[67, 80, 85]⟩, .int .i64 1] 45)) (.slice (some ⟨X.heap.size, 0, none⟩) 1 1) [⟨⟨#[67, 80, 85]⟩, 1⟩] := row_built X ([⟨⟨#[67, 80, 85]⟩, 1⟩] : List Am) okAm (by rfl) (by rfl) (by show 1 ≤ maxLen; decide)
    exact q9.mono (by have := lt_of_some K.out.o; have := K.out.bs; omega)
  obtain ⟨X5, hX5⟩ : ∃ X5, X5 = X3.setCell ⟨g, 2, none⟩ (.slice (some ⟨gn, 0, none⟩) 1 1) := ⟨_, rfl⟩
  have q3 := K3.q.2 0 (by show 0 < 1; decide)
  have K5 : Hid (WO w bo (⟨⟨#[47, 97]⟩, ⟨#[120]⟩, [], 3, 0, [⟨⟨#[109, 97, 105, 110]⟩, [⟨⟨#[99, 112, 117]⟩, 500⟩], [⟨⟨#[67, 80, 85]⟩, 1⟩]⟩], 7⟩ : Ob) (.slice la 0 lc) (.slice (some ⟨g, 0, none⟩) 1 pc) [⟨r.n, r.r, ⟨some ⟨gn, 0, none⟩, 1, 1⟩⟩] X5) := Lib.hid (by
    rw [hX5]
    exact K3.elem 2 _ rfl rfl ⟨rfl, fun k hk => by
      obtain rfl : k = 0 := by simpa using hk
      exact ⟨q3.1, q3.2.1, R3⟩⟩)
  have c9 := cb 5 _ rfl
  have c8 : X3.cell? ⟨bo, 5, none⟩ = some (.slice (some ⟨g, 0, none⟩) 1 pc) := by rw [cell_of_row X3 bo 5 _ _ _ K3.o]; rfl
  obtain ⟨b9, off9, ea, hc9⟩ := (K3.p.row okPt).at 0 (by show 0 < 1; decide)
  simp only [Option.some.injEq, Addr.mk.injEq, and_true] at ea
  obtain ⟨rfl, rfl⟩ := ea
  have d9 : X3.cell? ⟨g, 2, none⟩ = some (r.l.v) := by have := hc9 2 _ rfl; simpa using this
  have fz3 : X3.frozen? ⟨g, 2, none⟩ = false := by
    obtain ⟨cs, m, hb9⟩ := K3.p.ty g rfl
    obtain ⟨_, ⟨_, hn⟩ | ⟨g', cap, cur, hv, _, hg', _⟩⟩ := K3.p
    · simp at hn
    · simp only [Value.slice.injEq, Option.some.injEq, Addr.mk.injEq, and_true] at hv
      obtain ⟨rfl, _⟩ := hv
      exact frozen_of_row _ _ _ _ _ hg'
  have hX4 := hX3.symm
  have hX6 := hX5.symm
  have hgn2 := hgn.symm
  clear hX5 hX3 hgn K K3 A3 R3 q3 hq0 cb fz hc9
  have ce : ∀ j y, (#[.string ⟨#[47, 97]⟩, .string ⟨#[120]⟩, .slice la 0 lc, .int .i64 3, .int .i64 0, .slice (some ⟨g, 0, none⟩) 1 pc, .int .i64 7] : Array Value)[j]? = some y → X5.cell? ⟨bo, j, none⟩ = some y := fun j y hy => by rw [cell_of_row X5 bo j _ _ _ K5.out.o]; exact hy
  have e0 := ce 0 _ rfl
  have e1 := ce 1 _ rfl
  have e2 := ce 2 _ rfl
  have e3 := ce 3 _ rfl
  have e4 := ce 4 _ rfl
  have e5 := ce 5 _ rfl
  have e6 := ce 6 _ rfl
  have ON : Hid ((#[.string ⟨#[47, 97]⟩, .string ⟨#[120]⟩, .slice la 0 lc, .int .i64 3, .int .i64 0, .slice (some ⟨g, 0, none⟩) 1 pc, .int .i64 7] : Array Value).all (·.oneCell') = true) := Lib.hid (by simp [Value.oneCell'])
  clear ce
  go_wp2_with (refine wpList_store_row rfl 25 (.tmp 2) (.tmp 97) rfl w.heap.size #[.string ⟨#[47, 97]⟩, .string ⟨#[120]⟩, .slice la 0 lc, .int .i64 3, .int .i64 0, .slice (some ⟨g, 0, none⟩) 1 pc, .int .i64 7] rfl rfl 25 #[.string ⟨#[]⟩, .string ⟨#[]⟩, .slice none 0 0, .int .i64 0, .int .i64 0, .slice none 0 0, .int .i64 0] K5.out.z size_obj rfl ON.out ?_)
  have D := K5.out.done #[.string ⟨#[47, 97]⟩, .string ⟨#[120]⟩, .slice la 0 lc, .int .i64 3, .int .i64 0, .slice (some ⟨g, 0, none⟩) 1 pc, .int .i64 7]
  refine bodyPost_ret (results_cell_row rfl _ _ w.heap.size 25 #[.string ⟨#[47, 97]⟩, .string ⟨#[120]⟩, .slice la 0 lc, .int .i64 3, .int .i64 0, .slice (some ⟨g, 0, none⟩) 1 pc, .int .i64 7] (0, 0) _ rfl (setRow_heap _ _ _ _ _ _ K5.out.z) Tryd.underlying25 rfl size_obj) rfl ?_
  exact ⟨(⟨⟨#[47, 97]⟩, ⟨#[120]⟩, [], 3, 0, [⟨⟨#[109, 97, 105, 110]⟩, [⟨⟨#[99, 112, 117]⟩, 500⟩], [⟨⟨#[67, 80, 85]⟩, 1⟩]⟩], 7⟩ : Ob), _, _, rfl, D.1, ⟨⟨by decide, by decide⟩, smO_fit.l, fun x hx => (by
    rw [List.mem_singleton.1 hx]
    refine ⟨by decide, fun y hy => ?_, fun y hy => ?_⟩ <;> (first | (simp at hy; done) | (simp only [List.mem_cons, List.not_mem_nil, or_false] at hy; rcases hy with rfl | rfl <;> exact ⟨by decide, by decide, by decide⟩) | (simp only [List.mem_cons, List.not_mem_nil, or_false] at hy; subst hy; exact ⟨by decide, by decide, by decide⟩))), by decide⟩, by decide +kernel, D.2⟩
set_option maxHeartbeats 8000000 in
set_option maxRecDepth 100000 in
theorem wrong_13 (w : World) : Calls Tryd.prog 5 #[.int .i64 13] w (Wrong w) := by
  have SM := Lib.hid (small_any (w.alloc (.cells #[.string ⟨#[]⟩, .string ⟨#[]⟩, .slice none 0 0, .int .i64 0, .int .i64 0, .slice none 0 0, .int .i64 0] 25)))
  go_enter Tryd.func5, Tryd.ntmps5
  go_wp2_with fail
  refine SM.out.mono ?_
  rintro e W1 ⟨vl, vp, rfl, ho, hb⟩
  clear SM
  obtain ⟨la, lc, hl9, _, _⟩ := ho.obv.l.len
  have hl8 : vl = .slice la 0 lc := hl9
  clear hl9
  subst hl8
  obtain ⟨pa, pc, hp9, _, _⟩ := ho.obv.p.len
  have hp8 : vp = .slice pa 1 pc := hp9
  clear hp9
  subst hp8
  obtain ⟨X, hX⟩ : ∃ X, X = W1.alloc (.cells #[.string ⟨#[47, 97]⟩, .string ⟨#[120]⟩, .slice la 0 lc, .int .i64 3, .int .i64 0, .slice pa 1 pc, .int .i64 7] 25) := ⟨_, rfl⟩
  obtain ⟨bo, hbo⟩ : ∃ bo, bo = W1.heap.size := ⟨_, rfl⟩
  obtain ⟨rs, K0⟩ := WO.start w ((Below.refl _ w).alloc (Nat.le_refl _) _) ho hb hX hbo
  have K := Lib.hid K0
  clear ho hb K0
  unfold Ob.val smO
  simp only
  have hX2 := hX.symm
  have hb2 := hbo.symm
  clear hX hbo
  have cb : ∀ j y, (#[.string ⟨#[47, 97]⟩, .string ⟨#[120]⟩, .slice la 0 lc, .int .i64 3, .int .i64 0, .slice pa 1 pc, .int .i64 7] : Array Value)[j]? = some y → X.cell? ⟨bo, j, none⟩ = some y := fun j y hy => by rw [cell_of_row X bo j _ _ _ K.out.o]; exact hy
  have fz : ∀ j, X.frozen? ⟨bo, j, none⟩ = false := fun j => frozen_of_row _ _ _ _ _ K.out.o
  obtain ⟨gn, hgn⟩ : ∃ gn, gn = X.heap.size := ⟨_, rfl⟩
  obtain ⟨X3, hX3⟩ : ∃ X3, X3 = X.alloc (.cells #[.string ⟨#[98]⟩, .string ⟨#[]⟩, .string ⟨#[97]⟩, .string ⟨#[]⟩] 37) := ⟨_, rfl⟩
  have A3 : Below X.heap.size X X3 := by rw [hX3]; exact (Below.refl _ _).alloc (Nat.le_refl _) _
  have K3 := K.out.below A3
  have R3 : OwnR kLb (w.heap.size + 1) X3 (.slice (some ⟨gn, 0, none⟩) 2 2) [(⟨#[98]⟩, ⟨#[]⟩), (⟨#[97]⟩, ⟨#[]⟩)] := by
    rw [hX3, hgn]
    have q9 : OwnR kLb X.heap.size (X.alloc (.cells #[.string ⟨#[98]⟩, .string ⟨#[]⟩, .string ⟨#[97]⟩, .string ⟨#[]⟩] 37)) (.slice (some ⟨X.heap.size, 0, none⟩) 2 2) [(⟨#[98]⟩, ⟨#[]⟩), (⟨#[97]⟩, ⟨#[]⟩)] := row_built X ([(⟨#[98]⟩, ⟨#[]⟩), (⟨#[97]⟩, ⟨#[]⟩)] : List (ByteArray × ByteArray)) okLb (by rfl) (by rfl) (by show 2 ≤ maxLen; decide)
    exact q9.mono (by have := lt_of_some K.out.o; have := K.out.bs; omega)
  obtain ⟨X5, hX5⟩ : ∃ X5, X5 = X3.setCell ⟨bo, 2, none⟩ (.slice (some ⟨gn, 0, none⟩) 2 2) := ⟨_, rfl⟩
  have K5 : Hid (WO w bo (⟨⟨#[47, 97]⟩, ⟨#[120]⟩, [(⟨#[98]⟩, ⟨#[]⟩), (⟨#[97]⟩, ⟨#[]⟩)], 3, 0, [⟨⟨#[109, 97, 105, 110]⟩, [⟨⟨#[99, 112, 117]⟩, 500⟩], []⟩], 7⟩ : Ob) (.slice (some ⟨gn, 0, none⟩) 2 2) (.slice pa 1 pc) rs X5) := Lib.hid (by rw [hX5]; exact K3.into 2 _ rfl R3 K3.p K3.q)
  have c8 : X3.cell? ⟨bo, 2, none⟩ = some (.slice la 0 lc) := by rw [cell_of_row X3 bo 2 _ _ _ K3.o]; rfl
  have f8 : X3.frozen? ⟨bo, 2, none⟩ = false := frozen_of_row _ _ _ _ _ K3.o
  have hX4 := hX3.symm
  have hX6 := hX5.symm
  have hgn2 := hgn.symm
  clear hX5 hX3 hgn K K3 A3 R3 cb fz
  have ce : ∀ j y, (#[.string ⟨#[47, 97]⟩, .string ⟨#[120]⟩, .slice (some ⟨gn, 0, none⟩) 2 2, .int .i64 3, .int .i64 0, .slice pa 1 pc, .int .i64 7] : Array Value)[j]? = some y → X5.cell? ⟨bo, j, none⟩ = some y := fun j y hy => by rw [cell_of_row X5 bo j _ _ _ K5.out.o]; exact hy
  have e0 := ce 0 _ rfl
  have e1 := ce 1 _ rfl
  have e2 := ce 2 _ rfl
  have e3 := ce 3 _ rfl
  have e4 := ce 4 _ rfl
  have e5 := ce 5 _ rfl
  have e6 := ce 6 _ rfl
  have ON : Hid ((#[.string ⟨#[47, 97]⟩, .string ⟨#[120]⟩, .slice (some ⟨gn, 0, none⟩) 2 2, .int .i64 3, .int .i64 0, .slice pa 1 pc, .int .i64 7] : Array Value).all (·.oneCell') = true) := Lib.hid (by simp [Value.oneCell'])
  clear ce
  go_wp2_with (refine wpList_store_row rfl 25 (.tmp 2) (.tmp 97) rfl w.heap.size #[.string ⟨#[47, 97]⟩, .string ⟨#[120]⟩, .slice (some ⟨gn, 0, none⟩) 2 2, .int .i64 3, .int .i64 0, .slice pa 1 pc, .int .i64 7] rfl rfl 25 #[.string ⟨#[]⟩, .string ⟨#[]⟩, .slice none 0 0, .int .i64 0, .int .i64 0, .slice none 0 0, .int .i64 0] K5.out.z size_obj rfl ON.out ?_)
  have D := K5.out.done #[.string ⟨#[47, 97]⟩, .string ⟨#[120]⟩, .slice (some ⟨gn, 0, none⟩) 2 2, .int .i64 3, .int .i64 0, .slice pa 1 pc, .int .i64 7]
  refine bodyPost_ret (results_cell_row rfl _ _ w.heap.size 25 #[.string ⟨#[47, 97]⟩, .string ⟨#[120]⟩, .slice (some ⟨gn, 0, none⟩) 2 2, .int .i64 3, .int .i64 0, .slice pa 1 pc, .int .i64 7] (0, 0) _ rfl (setRow_heap _ _ _ _ _ _ K5.out.z) Tryd.underlying25 rfl size_obj) rfl ?_
  exact ⟨(⟨⟨#[47, 97]⟩, ⟨#[120]⟩, [(⟨#[98]⟩, ⟨#[]⟩), (⟨#[97]⟩, ⟨#[]⟩)], 3, 0, [⟨⟨#[109, 97, 105, 110]⟩, [⟨⟨#[99, 112, 117]⟩, 500⟩], []⟩], 7⟩ : Ob), _, _, rfl, D.1, ⟨⟨by decide, by decide⟩, fun x hx => (by
    simp only [List.mem_cons, List.not_mem_nil, or_false] at hx
    rcases hx with rfl | rfl <;> exact ⟨by decide, by decide⟩), smO_fit.p, by decide⟩, by decide +kernel, D.2⟩
end Go.Proofs.YthomdgnmoapbkaaDoor
end S7

section S8
namespace Go.Proofs.YthomdgnmoapbkaaDoor
open Go.RowKit
theorem obS_many {x : Ob} (h : 8 < x.ps.length) : obS x = false := by
  unfold obS ptsB
  rw [show decide (x.ps.length ≤ 8) = false from decide_eq_false (by omega)]
  simp
theorem app_size1 {t : ByteArray} (h : t.size = 1) : ((⟨#[110]⟩ : ByteArray) ++ t).size ≤ 140737488355328 := by
  rw [ByteArray.size_append, h]; show 1 + 1 ≤ 140737488355328; decide
set_option maxHeartbeats 8000000 in
set_option maxRecDepth 100000 in
theorem wrong_14 (w : World) : Calls Tryd.prog 5 #[.int .i64 14] w (Wrong w) := by
  have SM := Lib.hid (small_any (w.alloc (.cells #[.string ⟨#[]⟩, .string ⟨#[]⟩, .slice none 0 0, .int .i64 0, .int .i64 0, .slice none 0 0, .int .i64 0] 25)))
  go_enter Tryd.func5, Tryd.ntmps5
  go_wp2_with fail
  refine SM.out.mono ?_
  rintro e W1 ⟨vl, vp, rfl, ho, hb⟩
  clear SM
  obtain ⟨la, lc, hl9, _, _⟩ := ho.obv.l.len
  have hl8 : vl = .slice la 0 lc := hl9
  clear hl9
  subst hl8
  obtain ⟨pa, pc, hp9, _, _⟩ := ho.obv.p.len
  have hp8 : vp = .slice pa 1 pc := hp9
  clear hp9
  subst hp8
  obtain ⟨X, hX⟩ : ∃ X, X = W1.alloc (.cells #[.string ⟨#[47, 97]⟩, .string ⟨#[120]⟩, .slice la 0 lc, .int .i64 3, .int .i64 0, .slice pa 1 pc, .int .i64 7] 25) := ⟨_, rfl⟩
  obtain ⟨bo, hbo⟩ : ∃ bo, bo = W1.heap.size := ⟨_, rfl⟩
  obtain ⟨rs, K0⟩ := WO.start w ((Below.refl _ w).alloc (Nat.le_refl _) _) ho hb hX hbo
  have K := Lib.hid K0
  clear ho hb K0
  unfold Ob.val smO
  simp only
  have hX2 := hX.symm
  have hb2 := hbo.symm
  clear hX hbo
  have cb : ∀ j y, (#[.string ⟨#[47, 97]⟩, .string ⟨#[120]⟩, .slice la 0 lc, .int .i64 3, .int .i64 0, .slice pa 1 pc, .int .i64 7] : Array Value)[j]? = some y → X.cell? ⟨bo, j, none⟩ = some y := fun j y hy => by rw [cell_of_row X bo j _ _ _ K.out.o]; exact hy
  have fz : ∀ j, X.frozen? ⟨bo, j, none⟩ = false := fun j => frozen_of_row _ _ _ _ _ K.out.o
  have K1 : Aside (WO w bo smO (.slice la 0 lc) (.slice pa 1 pc) rs X) := K.out
  have c9 := cb 5 _ rfl
  clear K cb fz
  go_wp2_with fail
  go_loopg [4] 8 (fun gg si wr => ∃ (k : Nat) (a : Option Addr) (c : Nat) (rs : List Pr) (ps : List Pt), k ≤ 8 ∧ gg = 8 - k ∧ si = .int .i64 k ∧ WO w bo (⟨⟨#[47, 97]⟩, ⟨#[120]⟩, [], 3, 0, ps, 7⟩ : Ob) (.slice la 0 lc) (.slice a (k + 1) c) rs wr ∧ ps.length = k + 1 ∧ (∀ x ∈ ps, x.n.size ≤ 140737488355328 ∧ (∀ y ∈ x.r, y.fit) ∧ (∀ y ∈ x.l, y.fit)))
  case atStart => exact ⟨0, pa, pc, rs, smO.ps, Nat.zero_le _, rfl, rfl, K1.out, rfl, smO_fit.p⟩
  case round =>
    clear K1 c9 hX2 hb2
    obtain ⟨k, a, c, rs, ps, hk, hg, rfl, hw, hl, hf⟩ := hrel
    have R : Aside (gk = 8 - k) := hg
    have K := Lib.hid hw
    have HL := Lib.hid (And.intro hl hf)
    clear hg hw hl hf
    by_cases hlt : k < 8
    · have hlt' : (k : Int) < 8 := by omega
      have cb5 : wr.cell? ⟨bo, 5, none⟩ = some (.slice a (k + 1) c) := by rw [cell_of_row wr bo 5 _ _ _ K.out.o]; rfl
      have w1 : IntKind.i64.wrap (48 + (k : Int)) = 48 + (k : Int) := by rw [IntKind.wrap_i64]; omega
      have w2 : IntKind.u8.wrap (48 + (k : Int)) = 48 + (k : Int) := by rw [IntKind.wrap_u8]; omega
      obtain ⟨A1, hA1⟩ : ∃ A1, A1 = wr.alloc (.cells #[.int .u8 (48 + (k : Int))] 5) := ⟨_, rfl⟩
      obtain ⟨gb, hgb⟩ : ∃ gb, gb = wr.heap.size := ⟨_, rfl⟩
      have B1 : Below wr.heap.size wr A1 := by rw [hA1]; exact (Below.refl _ _).alloc (Nat.le_refl _) _
      have cv : (convert 46 9 (.slice (some ⟨gb, 0, none⟩) 1 1)).run Tryd.prog A1 = .ok (.string (txt [UInt8.ofNat (48 + k)])) A1 := convT (⟨_, _, rfl, Nat.le_refl _, by show 1 ≤ maxLen; decide, fun h => by simp at h, fun j hj => ⟨gb, 0, rfl, by
        obtain rfl : j = 0 := by simpa using hj
        rw [hA1, hgb, World.cell?_alloc_new]
        show some (Value.int .u8 (48 + (k : Int))) = some (Value.int .u8 (c8 (UInt8.ofNat (48 + k))))
        rw [c8_of _ (by omega)]; congr 2⟩⟩)
      obtain ⟨t1, ht1⟩ : ∃ t1, t1 = txt [UInt8.ofNat (48 + k)] := ⟨_, rfl⟩
      rw [← ht1] at cv
      have TZ : Hid (t1.size = 1) := Lib.hid (by rw [ht1, txt_size]; rfl)
      have tz := TZ.out
      clear ht1
      have KA := Lib.hid (K.out.below B1)
      have LN : Hid ((rs.length + 1) * kPt.b ≤ 140737488355328) := Lib.hid (by have := K.out.q.1; rw [this]; show (ps.length + 1) * 64 ≤ 140737488355328; rw [HL.out.1]; omega)
      have BS : Hid (w.heap.size + 1 ≤ A1.heap.size) := Lib.hid (by have := lt_of_some KA.out.o; have := KA.out.bs; omega)
      have hA2 := hA1.symm
      have hg2 := hgb.symm
      clear hA1 hgb B1
      go_wp2_with (at_builtin; refine app_rowB okPt (gg := A1.heap.size) rfl _ _ rfl rfl KA.out.p BS.out ⟨(⟨#[110]⟩ ++ t1), ⟨none, 0, 0⟩, ⟨none, 0, 0⟩⟩ ?hgg rfl rfl LN.out ?_)
      case hgg => simp
      intro v' w' h1 h2
      obtain ⟨a2, c2, hv2⟩ := h1.slice
      have hv3 : v' = .slice a2 (k + 1 + 1) c2 := by rw [hv2, List.length_append, KA.out.q.1]; show Value.slice a2 (ps.length + 1) c2 = _; rw [HL.out.1]
      clear hv2
      subst hv3
      have GN := Lib.hid (KA.out.grown h2)
      have z2 : w'.cell? ⟨bo, 5, none⟩ = some (.slice a (k + 1) c) := by rw [cell_of_row w' _ 5 _ _ _ GN.out]; rfl
      have f2 : w'.frozen? ⟨bo, 5, none⟩ = false := frozen_of_row _ _ _ _ _ GN.out
      obtain ⟨X5, hX5⟩ : ∃ X5, X5 = w'.setCell ⟨bo, 5, none⟩ (.slice a2 (k + 1 + 1) c2) := ⟨_, rfl⟩
      have K5 : Aside (WO w bo (⟨⟨#[47, 97]⟩, ⟨#[120]⟩, [], 3, 0, ps ++ [⟨(⟨#[110]⟩ ++ t1), [], []⟩], 7⟩ : Ob) (.slice la 0 lc) (.slice a2 (k + 1 + 1) c2) (rs ++ [⟨(⟨#[110]⟩ ++ t1), ⟨none, 0, 0⟩, ⟨none, 0, 0⟩⟩]) X5) := by rw [hX5]; exact KA.out.part (y := ⟨(⟨#[110]⟩ ++ t1), [], []⟩) h1 h2 rfl (OwnR.nil _ _ _) (OwnR.nil _ _ _)
      have hX6 := hX5.symm
      clear hX5 K KA h1 h2 GN hA2 hg2 LN BS cv cb5
      go_wp2_with fail
      go_roundg (8 - (k + 1))
      case measure => have := R.out; omega
      case rel => exact ⟨k + 1, a2, c2, _, _, by omega, rfl, by go_num, K5.out, by rw [List.length_append, HL.out.1]; rfl, fun x hx => by
        rcases List.mem_append.1 hx with q | q
        · exact HL.out.2 x q
        · rw [List.mem_singleton.1 q]; exact ⟨app_size1 TZ.out, fun y hy => by simp at hy, fun y hy => by simp at hy⟩⟩
    · obtain rfl : k = 8 := by omega
      obtain ⟨X5, hX5⟩ : ∃ X5, X5 = wr := ⟨_, rfl⟩
      rw [← hX5] at K ⊢
      have K5 := K
      clear K hX5
      have ce : ∀ j y, (#[.string ⟨#[47, 97]⟩, .string ⟨#[120]⟩, .slice la 0 lc, .int .i64 3, .int .i64 0, .slice a 9 c, .int .i64 7] : Array Value)[j]? = some y → X5.cell? ⟨bo, j, none⟩ = some y := fun j y hy => by rw [cell_of_row X5 bo j _ _ _ K5.out.o]; exact hy
      have e0 := ce 0 _ rfl
      have e1 := ce 1 _ rfl
      have e2 := ce 2 _ rfl
      have e3 := ce 3 _ rfl
      have e4 := ce 4 _ rfl
      have e5 := ce 5 _ rfl
      have e6 := ce 6 _ rfl
      have ON : Hid ((#[.string ⟨#[47, 97]⟩, .string ⟨#[120]⟩, .slice la 0 lc, .int .i64 3, .int .i64 0, .slice a 9 c, .int .i64 7] : Array Value).all (·.oneCell') = true) := Lib.hid (by simp [Value.oneCell'])
      clear ce
      go_wp2_with (refine wpList_store_row rfl 25 (.tmp 2) (.tmp 97) rfl w.heap.size #[.string ⟨#[47, 97]⟩, .string ⟨#[120]⟩, .slice la 0 lc, .int .i64 3, .int .i64 0, .slice a 9 c, .int .i64 7] rfl rfl 25 #[.string ⟨#[]⟩, .string ⟨#[]⟩, .slice none 0 0, .int .i64 0, .int .i64 0, .slice none 0 0, .int .i64 0] K5.out.z size_obj rfl ON.out ?_)
      have D := K5.out.done #[.string ⟨#[47, 97]⟩, .string ⟨#[120]⟩, .slice la 0 lc, .int .i64 3, .int .i64 0, .slice a 9 c, .int .i64 7]
      refine bodyPost_ret (results_cell_row rfl _ _ w.heap.size 25 #[.string ⟨#[47, 97]⟩, .string ⟨#[120]⟩, .slice la 0 lc, .int .i64 3, .int .i64 0, .slice a 9 c, .int .i64 7] (0, 0) _ rfl (setRow_heap _ _ _ _ _ _ K5.out.z) Tryd.underlying25 rfl size_obj) rfl ?_
      exact ⟨(⟨⟨#[47, 97]⟩, ⟨#[120]⟩, [], 3, 0, ps, 7⟩ : Ob), _, _, rfl, D.1, ⟨smO_fit.s, smO_fit.l, HL.out.2, smO_fit.n⟩, obS_many (by show 8 < ps.length; rw [HL.out.1]; decide), D.2⟩
theorem wrong_any (k : Int) (h0 : 0 ≤ k) (h1 : k ≤ 15) (w : World) : Calls Tryd.prog 5 #[.int .i64 k] w (Wrong w) := by
  have : k = 0 ∨ k = 1 ∨ k = 2 ∨ k = 3 ∨ k = 4 ∨ k = 5 ∨ k = 6 ∨ k = 7 ∨ k = 8 ∨ k = 9 ∨ k = 10 ∨ k = 11 ∨ k = 12 ∨ k = 13 ∨ k = 14 ∨ k = 15 := by omega
  rcases this with rfl | rfl | rfl | rfl | rfl | rfl | rfl | rfl | rfl | rfl | rfl | rfl | rfl | rfl | rfl | rfl
  · exact wrong_0 w
  · exact wrong_1 w
  · exact wrong_2 w
  · exact wrong_3 w
  · exact wrong_4 w
  · exact wrong_5 w
  · exact wrong_6 w
  · exact wrong_7 w
  · exact wrong_8 w
  · exact wrong_9 w
  · exact wrong_10 w
  · exact wrong_11 w
  · exact wrong_12 w
  · exact wrong_13 w
  · exact wrong_14 w
  · exact wrong_15 w
end Go.Proofs.YthomdgnmoapbkaaDoor
end S8

section S9
namespace Go.Proofs.YthomdgnmoapbkaaDoor
open Go.RowKit
theorem grown_cell {w0 w1 : World} {r : Option Nat} (h : w0.grownBy w1 r) {b j : Nat} (hn : r ≠ some b) (hl : b < w0.heap.size) : w1.cell? ⟨b, j, none⟩ = w0.cell? ⟨b, j, none⟩ := by
  have := (grown_kept h).block b hl (fun e => hn e.symm)
  simp only [World.cell?, this]
theorem set_cell {W : World} {b bo i j : Nat} {y : Value} (hn : b ≠ bo) (hl : b < W.heap.size) : (W.setCell ⟨bo, i, none⟩ y).cell? ⟨b, j, none⟩ = W.cell? ⟨b, j, none⟩ := by
  have := (kept_set (F := fun k => k = bo) W ⟨bo, i, none⟩ y rfl).block b hl hn
  simp only [World.cell?, this]
set_option maxHeartbeats 16000000 in
set_option maxRecDepth 100000 in
theorem ownObject_any (x : Ob) (u v : Value) (w : World) (hx : ObV w u v x) (hl : x.ls.length * 32 ≤ 140737488355328) (hp : x.ps.length * 64 ≤ 140737488355328) (hq : ∀ y ∈ x.ps, y.r.length * 24 ≤ 140737488355328 ∧ y.l.length * 24 ≤ 140737488355328) :
    Calls Tryd.prog 8 #[x.val u v] w fun e w' => ∃ vl vp, e = .returned (x.val vl vp) ∧ ObO w.heap.size w' vl vp x ∧ Below w.heap.size w w' := by
  obtain ⟨op, on, ols, opr, odl, ops, ov⟩ := x
  simp only at hl hp hq
  have V := Lib.hid hx
  obtain ⟨la, lc, rfl, hlc, hcm⟩ := hx.l.len
  obtain ⟨pa, pc, rfl, hlp, hcp⟩ := hx.p.len
  unfold maxLen at hcm hcp
  unfold Ob.val
  simp only at hlc hlp V ⊢
  obtain ⟨nl, hnl⟩ : ∃ nl, nl = ols.length := ⟨_, rfl⟩
  obtain ⟨np, hnp⟩ : ∃ np, np = ops.length := ⟨_, rfl⟩
  rw [← hnl] at hlc hl V ⊢
  rw [← hnp] at hlp hp V ⊢
  have HN := Lib.hid (And.intro hnl hnp)
  have HQ := Lib.hid hq
  clear hx hnl hnp hq
  obtain ⟨X1, hX1⟩ : ∃ X1, X1 = w.alloc (.cells #[.string op, .string on, (.slice la nl lc), .int .i64 opr, .int .i64 odl, (.slice pa np pc), .int .i64 ov] 25) := ⟨_, rfl⟩
  obtain ⟨X2, hX2⟩ : ∃ X2, X2 = X1.alloc (.cells #[.string ⟨#[]⟩, .string ⟨#[]⟩, .slice none 0 0, .int .i64 0, .int .i64 0, .slice none 0 0, .int .i64 0] 25) := ⟨_, rfl⟩
  obtain ⟨X3, hX3⟩ : ∃ X3, X3 = X2.alloc (.cells #[.string op, .string on, .slice none 0 0, .int .i64 opr, .int .i64 odl, .slice none 0 0, .int .i64 ov] 25) := ⟨_, rfl⟩
  have s1 : X1.heap.size = w.heap.size + 1 := by rw [hX1]; simp
  have s2 : X2.heap.size = w.heap.size + 2 := by rw [hX2]; simp [s1]
  have B1 : Below w.heap.size w X1 := by rw [hX1]; exact (Below.refl _ w).alloc (Nat.le_refl _) _
  have B2 : Below X1.heap.size X1 X2 := by rw [hX2]; exact (Below.refl _ X1).alloc (Nat.le_refl _) _
  have B3 : Below X2.heap.size X2 X3 := by rw [hX3]; exact (Below.refl _ X2).alloc (Nat.le_refl _) _
  have r1 : X1.heap[w.heap.size]? = some (.cells #[.string op, .string on, (.slice la nl lc), .int .i64 opr, .int .i64 odl, (.slice pa np pc), .int .i64 ov] 25 (0, 0)) := by rw [hX1, heap_alloc_new]
  have r2 : X2.heap[w.heap.size + 1]? = some (.cells #[.string ⟨#[]⟩, .string ⟨#[]⟩, .slice none 0 0, .int .i64 0, .int .i64 0, .slice none 0 0, .int .i64 0] 25 (0, 0)) := by rw [hX2, ← s1, heap_alloc_new]
  have r3 : X3.heap[w.heap.size + 2]? = some (.cells #[.string op, .string on, .slice none 0 0, .int .i64 opr, .int .i64 odl, .slice none 0 0, .int .i64 ov] 25 (0, 0)) := by rw [hX3, ← s2, heap_alloc_new]
  have BB : Below w.heap.size w X3 := (B1.trans (B2.mono B1.size)).trans (B3.mono (by omega))
  obtain ⟨bo, hbo⟩ : ∃ bo, bo = w.heap.size + 1 + 1 := ⟨_, rfl⟩
  have T0 : Aside (OO w w.heap.size (w.heap.size + 1) bo ⟨op, on, ols, opr, odl, ops, ov⟩ (.slice la nl lc) (.slice pa np pc) (.slice none 0 0) (.slice none 0 0) [] [] [] X3) := by
    refine ⟨?_, ?_, by rw [hbo]; exact r3, OwnR.nil _ _ _, OwnR.nil _ _ _, ⟨rfl, fun k hk => by simp at hk⟩, BB, by omega⟩
    · rw [B3.block _ (by omega), B2.block _ (by omega)]; exact r1
    · rw [B3.block _ (by omega)]; exact r2
  have EX : Hid (X3 = ((w.alloc (.cells #[.string op, .string on, (.slice la nl lc), .int .i64 opr, .int .i64 odl, (.slice pa np pc), .int .i64 ov] 25)).alloc (.cells #[.string ⟨#[]⟩, .string ⟨#[]⟩, .slice none 0 0, .int .i64 0, .int .i64 0, .slice none 0 0, .int .i64 0] 25)).alloc (.cells #[.string op, .string on, .slice none 0 0, .int .i64 opr, .int .i64 odl, .slice none 0 0, .int .i64 ov] 25)) := Lib.hid (by rw [hX3, hX2, hX1])
  have HBO := Lib.hid hbo
  clear hX1 hX2 hX3 s1 s2 B1 B2 B3 r1 r2 r3 BB hbo
  go_enter Tryd.func8, Tryd.ntmps8
  go_wp2_with fail
  rw [← EX.out]
  clear EX
  rw [← HBO.out]
  go_loopg [4] nl (fun gg si wr => ∃ (k : Nat) (a : Option Addr) (c d : Nat), k ≤ nl ∧ gg = nl - k ∧ si = .int .i64 k ∧ OO w w.heap.size (w.heap.size + 1) bo ⟨op, on, ols, opr, odl, ops, ov⟩ (.slice la nl lc) (.slice pa np pc) (.slice a c d) (.slice none 0 0) (ols.take k) [] [] wr)
  case atStart => exact ⟨0, none, 0, 0, Nat.zero_le _, rfl, rfl, T0.out⟩
  case round =>
    clear T0
    obtain ⟨k, a, c, d, hk, hg, rfl, hlo⟩ := hrel
    have R : Aside (gk = nl - k ∧ OO w w.heap.size (w.heap.size + 1) bo ⟨op, on, ols, opr, odl, ops, ov⟩ (.slice la nl lc) (.slice pa np pc) (.slice a c d) (.slice none 0 0) (ols.take k) [] [] wr) := ⟨hg, hlo⟩
    have k2 : wr.cell? ⟨w.heap.size, 2, none⟩ = some (.slice la nl lc) := by rw [cell_of_row wr _ 2 _ _ _ hlo.a]; rfl
    clear hg hlo
    by_cases hlt : k < nl
    · have hlt' : (k : Int) < (nl : Int) := by omega
      have hlt2 : k < ols.length := by rw [← HN.out.1]; exact hlt
      obtain ⟨b, off, rfl, pc9⟩ := (V.out.l.below R.out.2.be).at k hlt2
      simp only at pc9
      have ST := Lib.hid (take_onez ols k kLb.z hlt2)
      have LN : Hid (((ols.take k).length + 1) * kLb.b ≤ 140737488355328) := Lib.hid (by rw [List.length_take]; show (min k ols.length + 1) * 32 ≤ 140737488355328; omega)
      obtain ⟨y, hy⟩ : ∃ y, y = ols.getD k kLb.z := ⟨_, rfl⟩
      rw [← hy] at pc9 ST
      clear hy hlt2
      obtain ⟨acc, hacc⟩ : ∃ acc, acc = ols.take k := ⟨_, rfl⟩
      rw [← hacc] at ST LN R
      clear hacc
      obtain ⟨y1, y2⟩ := y
      have TD := Lib.hid R.out.2.drew
      have dc : ∀ ad v, wr.cell? ad = some v → wr.drew.cell? ad = some v := fun ad v q => q
      have p0 := dc _ _ (show wr.cell? ⟨b, off + k * 2, none⟩ = some (.string y1) from pc9 0 _ rfl)
      have p1 := dc _ _ (show wr.cell? ⟨b, off + k * 2 + 1, none⟩ = some (.string y2) from pc9 1 _ rfl)
      have e2 : wr.drew.cell? ⟨bo, 2, none⟩ = some (.slice a c d) := by rw [cell_of_row wr.drew _ 2 _ _ _ TD.out.o]; rfl
      have a2 := dc _ _ k2
      have LB : Hid (w.heap.size ≤ wr.drew.heap.size) := Lib.hid TD.out.be.size
      have mA : ∀ ob, (wr.drew.alloc ob).cell? ⟨bo, 2, none⟩ = some (.slice a c d) := fun ob => by rw [((Below.refl wr.drew.heap.size wr.drew).alloc (Nat.le_refl _) ob).cell (block_lt_of_cell e2)]; exact e2
      have mB : ∀ ob, (wr.alloc ob).cell? ⟨bo, 2, none⟩ = some (.slice a c d) := fun ob => mA ob
      have e3 : wr.cell? ⟨bo, 2, none⟩ = some (.slice a c d) := e2
      clear pc9 dc
      go_wp2_with fail
      go_region_law (first | (refine step_rowB okLb rfl (.tmp 18) (.tmp 24) rfl (B := w.heap.size) (w0 := wr.drew) (v := .slice a c d) (es := acc) rfl TD.out.l LB.out (y1, y2) rfl rfl LN.out ?_; intro a3 n3 c3 w7 H7; have GN := Lib.hid (TD.out.rows (grown_kept H7.out.2.1) (own_tb TD.out.l _ (by decide))).2.2; have f2 : w7.frozen? ⟨bo, 2, none⟩ = false := frozen_of_row _ _ _ _ _ GN.out; have z2 : w7.cell? ⟨bo, 2, none⟩ = some (.slice a c d) := by rw [cell_of_row w7 _ 2 _ _ _ GN.out]; rfl))
      all_goals
        have S8 := Lib.hid (TD.out.label H7.out.1 H7.out.2.1)
        rw [← ST.out] at S8
        clear f2 z2 mA mB e3 e2 a2 k2 p0 p1
        obtain ⟨W4, hW4⟩ : ∃ W4, w7.setCell ⟨bo, 2, none⟩ (.slice a3 n3 c3) = W4 := ⟨_, rfl⟩
        rw [hW4] at S8
        rw [hW4]
        clear hW4
        go_wp2_with fail
        go_roundg (nl - (k + 1))
        case measure => have := R.out.1; omega
        case rel => exact ⟨k + 1, a3, n3, c3, by omega, rfl, by go_num, S8.out⟩
    · have T1 : Aside (OO w w.heap.size (w.heap.size + 1) bo ⟨op, on, ols, opr, odl, ops, ov⟩ (.slice la nl lc) (.slice pa np pc) (.slice a c d) (.slice none 0 0) ols [] [] wr) := by
        have := R.out.2; rw [List.take_of_length_le (by rw [← HN.out.1]; omega)] at this; exact this
      clear R
      go_wp2_with fail
      clear k2
      go_loopg [5] np (fun gg si ws => ∃ (k : Nat) (rs : List Pr) (a' : Option Addr) (c' d' : Nat), k ≤ np ∧ gg = np - k ∧ si = .int .i64 k ∧ OO w w.heap.size (w.heap.size + 1) bo ⟨op, on, ols, opr, odl, ops, ov⟩ (.slice la nl lc) (.slice pa np pc) (.slice a c d) (.slice a' c' d') ols rs (ops.take k) ws)
      case atStart => exact ⟨0, [], none, 0, 0, Nat.zero_le _, rfl, rfl, T1.out⟩
      case round =>
        clear T1
        obtain ⟨k, rs, a', c', d', hk', hg, rfl, hlo⟩ := hrel
        have R : Aside (gk = np - k ∧ OO w w.heap.size (w.heap.size + 1) bo ⟨op, on, ols, opr, odl, ops, ov⟩ (.slice la nl lc) (.slice pa np pc) (.slice a c d) (.slice a' c' d') ols rs (ops.take k) wr) := ⟨hg, hlo⟩
        have k5 : wr.cell? ⟨w.heap.size, 5, none⟩ = some (.slice pa np pc) := by rw [cell_of_row wr _ 5 _ _ _ hlo.a]; rfl
        clear hg hlo
        by_cases hlt : k < np
        · have hlt' : (k : Int) < (np : Int) := by omega
          have hlt2 : k < ops.length := by rw [← HN.out.2]; exact hlt
          obtain ⟨b, off, ra, rb, rfl, c0, c1, c2, hra, hrb⟩ := (V.out.p.below R.out.2.be).at k hlt2
          simp only at c0 c1 c2 hra hrb
          obtain ⟨y, hy⟩ : ∃ y, y = ops.getD k ⟨⟨#[]⟩, [], []⟩ := ⟨_, rfl⟩
          have HS := HQ.out _ (getD_in (d := ⟨⟨#[]⟩, [], []⟩) hlt2)
          have ST := Lib.hid (take_onez ops k ⟨⟨#[]⟩, [], []⟩ hlt2)
          have LN : Hid ((rs.length + 1) * kPt.b ≤ 140737488355328) := Lib.hid (by have := R.out.2.q.1; rw [List.length_take] at this; show (rs.length + 1) * 64 ≤ 140737488355328; omega)
          rw [← hy] at c0 hra hrb HS ST
          clear hy hlt2
          obtain ⟨xn, xr, xl⟩ := y
          obtain ⟨ra1, ra2, ra3⟩ := ra
          obtain ⟨rb1, rb2, rb3⟩ := rb
          unfold Sl.v at c1 c2 hra hrb
          simp only at c0 c1 c2 hra hrb HS
          obtain ⟨X, hX⟩ : ∃ X, X = wr.alloc (.cells #[.string xn, .slice ra1 ra2 ra3, .slice rb1 rb2 rb3] 35) := ⟨_, rfl⟩
          obtain ⟨b6, hb6⟩ : ∃ b6, b6 = wr.heap.size := ⟨_, rfl⟩
          have AX : Below wr.heap.size wr X := by rw [hX]; exact (Below.refl _ wr).alloc (Nat.le_refl _) _
          have TX : Hid (OO w w.heap.size (w.heap.size + 1) bo ⟨op, on, ols, opr, odl, ops, ov⟩ (.slice la nl lc) (.slice (some ⟨b, off, none⟩) np pc) (.slice a c d) (.slice a' c' d') ols rs (ops.take k) X) := Lib.hid (R.out.2.below AX)
          have TD := Lib.hid TX.out.drew
          have RW : Hid (Row kAm X.drew (.slice ra1 ra2 ra3) xr ∧ Row kAm X.drew (.slice rb1 rb2 rb3) xl ∧ xr.length * 24 ≤ 140737488355328 ∧ xl.length * 24 ≤ 140737488355328) := Lib.hid ⟨(hra.below AX).below ⟨rfl, rfl, rfl, Nat.le_refl _, fun _ _ => rfl⟩, (hrb.below AX).below ⟨rfl, rfl, rfl, Nat.le_refl _, fun _ _ => rfl⟩, HS.1, HS.2⟩
          have x0 : X.cell? ⟨b6, 0, none⟩ = some (.string xn) := by rw [hX, hb6, World.cell?_alloc_new]; rfl
          have x1 : X.cell? ⟨b6, 1, none⟩ = some (.slice ra1 ra2 ra3) := by rw [hX, hb6, World.cell?_alloc_new]; rfl
          have x2 : X.cell? ⟨b6, 2, none⟩ = some (.slice rb1 rb2 rb3) := by rw [hX, hb6, World.cell?_alloc_new]; rfl
          have d0 : X.drew.cell? ⟨b6, 0, none⟩ = some (.string xn) := x0
          have d1 : X.drew.cell? ⟨b6, 1, none⟩ = some (.slice ra1 ra2 ra3) := x1
          have d2 : X.drew.cell? ⟨b6, 2, none⟩ = some (.slice rb1 rb2 rb3) := x2
          have e5 : X.cell? ⟨bo, 5, none⟩ = some (.slice a' c' d') := by rw [cell_of_row X _ 5 _ _ _ TX.out.o]; rfl
          have g5 : X.drew.cell? ⟨bo, 5, none⟩ = some (.slice a' c' d') := e5
          have NE : Hid ((Value.slice a' c' d').ownBlock ≠ some b6 ∧ b6 ≠ bo) := Lib.hid ⟨fun e => by have := (R.out.2.p.lt _ e).2; omega, by have := lt_of_some R.out.2.o; omega⟩
          have hX' := hX.symm
          have hb6' := hb6.symm
          clear hX hb6 AX hra hrb HS
          go_wp2_with fail
          refine wp_region_noPanic ?_
          refine region_two (fun W' => W'.cell? ⟨b6, 0, none⟩ = some (.string xn) ∧ W'.cell? ⟨b6, 1, none⟩ = some (.slice ra1 ra2 ra3) ∧ W'.cell? ⟨b6, 2, none⟩ = some (.slice rb1 rb2 rb3)) (fun W' => W'.cell? ⟨bo, 5, none⟩ = some (.slice a' c' d')) 12 (by kernel_rfl) ?_
          refine two_take0 (i := 0) (oi := { dst := some 39, op := Op.fieldAddr 25 (Operand.tmp 3) 5, type := 0, pos := "law.go:29", after := #[], guard := none }) (v := ?v0) rfl (by kernel_rfl) (by kernel_rfl) (by kernel_rfl) rfl (fun _ _ _ h => h) (Or.inl ⟨by rfl, ?y0⟩) ⟨⟨d0, d1, d2⟩, fun _ => g5⟩ ?r0
          case y0 => (intro wS hS; obtain ⟨i0, i1, i2⟩ := hS; go_simp; (try with_reducible rfl))
          try simp only [Act.put, List.setIfInBounds_toArray, List.set_cons_zero, List.set_cons_succ]
          refine two_take1 (i := 1) (oi := { dst := some 40, op := Op.load 23 (Operand.tmp 39), type := 23, pos := "law.go:29", after := #[{ on := 0, ground := Ground.data }], guard := none }) (v := ?v1) { dst := some 51, op := Op.call { callee := Callee.builtin Builtin.append, args := #[Operand.tmp 40, Operand.tmp 50], argTypes := #[23, 23] }, type := 23, pos := "law.go:29", after := #[{ on := 1, ground := Ground.data }, { on := 11, ground := Ground.data }, { on := 9, ground := Ground.chain }], guard := none } rfl (by kernel_rfl) (by kernel_rfl) (by kernel_rfl) rfl rfl (by kernel_rfl) (by kernel_rfl) (fun _ _ _ h => h) (Or.inl ⟨by rfl, ?y1⟩) ⟨⟨d0, d1, d2⟩, fun _ => g5⟩ ?r1
          case y1 => (intro wS hS; go_simp; (try with_reducible rfl))
          try simp only [Act.put, List.setIfInBounds_toArray, List.set_cons_zero, List.set_cons_succ]
          refine two_take0 (i := 2) (oi := { dst := some 41, op := Op.fieldAddr 35 (Operand.tmp 6) 0, type := 0, pos := "law.go:29", after := #[], guard := none }) (v := ?v2) rfl (by kernel_rfl) (by kernel_rfl) (by kernel_rfl) rfl (fun _ _ _ h => h) (Or.inl ⟨by rfl, ?y2⟩) ⟨⟨d0, d1, d2⟩, fun _ => g5⟩ ?r2
          case y2 => (intro wS hS; obtain ⟨i0, i1, i2⟩ := hS; go_simp; (try with_reducible rfl))
          try simp only [Act.put, List.setIfInBounds_toArray, List.set_cons_zero, List.set_cons_succ]
          refine two_take0 (i := 3) (oi := { dst := some 42, op := Op.load 9 (Operand.tmp 41), type := 9, pos := "law.go:29", after := #[{ on := 2, ground := Ground.data }], guard := none }) (v := ?v3) rfl (by kernel_rfl) (by kernel_rfl) (by kernel_rfl) rfl (fun _ _ _ h => h) (Or.inl ⟨by rfl, ?y3⟩) ⟨⟨d0, d1, d2⟩, fun _ => g5⟩ ?r3
          case y3 => (intro wS hS; obtain ⟨i0, i1, i2⟩ := hS; go_simp; (try with_reducible rfl))
          try simp only [Act.put, List.setIfInBounds_toArray, List.set_cons_zero, List.set_cons_succ]
          refine two_take0 (i := 4) (oi := { dst := some 43, op := Op.fieldAddr 35 (Operand.tmp 6) 1, type := 0, pos := "law.go:29", after := #[], guard := none }) (v := ?v4) rfl (by kernel_rfl) (by kernel_rfl) (by kernel_rfl) rfl (fun _ _ _ h => h) (Or.inl ⟨by rfl, ?y4⟩) ⟨⟨d0, d1, d2⟩, fun _ => g5⟩ ?r4
          case y4 => (intro wS hS; obtain ⟨i0, i1, i2⟩ := hS; go_simp; (try with_reducible rfl))
          try simp only [Act.put, List.setIfInBounds_toArray, List.set_cons_zero, List.set_cons_succ]
          refine two_take0 (i := 5) (oi := { dst := some 44, op := Op.load 33 (Operand.tmp 43), type := 33, pos := "law.go:29", after := #[{ on := 4, ground := Ground.data }], guard := none }) (v := ?v5) rfl (by kernel_rfl) (by kernel_rfl) (by kernel_rfl) rfl (fun _ _ _ h => h) (Or.inl ⟨by rfl, ?y5⟩) ⟨⟨d0, d1, d2⟩, fun _ => g5⟩ ?r5
          case y5 => (intro wS hS; obtain ⟨i0, i1, i2⟩ := hS; go_simp; (try with_reducible rfl))
          try simp only [Act.put, List.setIfInBounds_toArray, List.set_cons_zero, List.set_cons_succ]
          refine two_take0 (i := 7) (oi := { dst := some 46, op := Op.fieldAddr 35 (Operand.tmp 6) 2, type := 0, pos := "law.go:29", after := #[], guard := none }) (v := ?v7) rfl (by kernel_rfl) (by kernel_rfl) (by kernel_rfl) rfl (fun _ _ _ h => h) (Or.inl ⟨by rfl, ?y7⟩) ⟨⟨d0, d1, d2⟩, fun _ => g5⟩ ?r7
          case y7 => (intro wS hS; obtain ⟨i0, i1, i2⟩ := hS; go_simp; (try with_reducible rfl))
          try simp only [Act.put, List.setIfInBounds_toArray, List.set_cons_zero, List.set_cons_succ]
          refine two_take0 (i := 8) (oi := { dst := some 47, op := Op.load 33 (Operand.tmp 46), type := 33, pos := "law.go:29", after := #[{ on := 7, ground := Ground.data }], guard := none }) (v := ?v8) rfl (by kernel_rfl) (by kernel_rfl) (by kernel_rfl) rfl (fun _ _ _ h => h) (Or.inl ⟨by rfl, ?y8⟩) ⟨⟨d0, d1, d2⟩, fun _ => g5⟩ ?r8
          case y8 => (intro wS hS; obtain ⟨i0, i1, i2⟩ := hS; go_simp; (try with_reducible rfl))
          try simp only [Act.put, List.setIfInBounds_toArray, List.set_cons_zero, List.set_cons_succ]
          refine two_one (j := 6) (o := { dst := some 45, op := Op.call { callee := Callee.value (Operand.func 17), args := #[Operand.tmp 44], argTypes := #[33] }, type := 33, pos := "law.go:29", after := #[{ on := 5, ground := Ground.data }], guard := none }) (by kernel_rfl) rfl (fun K hK => ?_)
          refine step_own rfl (.tmp 44) _ rfl (.slice ra1 ra2 ra3) xr X.drew rfl RW.out.1 RW.out.2.2.1 ?_
          intro a4 n4 c4 w1 H1
          have S1 := Lib.hid (TD.out.below H1.out.2)
          have q0 := (H1.out.2.cell (block_lt_of_cell d0)).trans d0
          have q1 := (H1.out.2.cell (block_lt_of_cell d1)).trans d1
          have q2 := (H1.out.2.cell (block_lt_of_cell d2)).trans d2
          have q5 := (H1.out.2.cell (block_lt_of_cell g5)).trans g5
          have RX := Lib.hid (RW.out.2.1.below H1.out.2)
          refine hK.out _ _ ⟨⟨q0, q1, q2⟩, fun _ => q5⟩ ?_
          clear hK K
          try simp only [Act.put, List.setIfInBounds_toArray, List.set_cons_zero, List.set_cons_succ]
          refine two_one (j := 9) (o := { dst := some 48, op := Op.call { callee := Callee.value (Operand.func 17), args := #[Operand.tmp 47], argTypes := #[33] }, type := 33, pos := "law.go:29", after := #[{ on := 8, ground := Ground.data }, { on := 6, ground := Ground.chain }], guard := none }) (by kernel_rfl) rfl (fun K hK => ?_)
          refine step_own rfl (.tmp 47) _ rfl (.slice rb1 rb2 rb3) xl w1 rfl RX.out RW.out.2.2.2 ?_
          intro a5 n5 c5 w2 H2
          have S2 := Lib.hid (S1.out.below H2.out.2)
          have t0 := (H2.out.2.cell (block_lt_of_cell q0)).trans q0
          have t1 := (H2.out.2.cell (block_lt_of_cell q1)).trans q1
          have t2 := (H2.out.2.cell (block_lt_of_cell q2)).trans q2
          have t5 := (H2.out.2.cell (block_lt_of_cell q5)).trans q5
          have O3 : Hid (OwnR kAm w.heap.size w2 (.slice a5 n5 c5) xl) := Lib.hid (H2.out.1.mono S1.out.be.size)
          have O4 : Hid (OwnR kAm w.heap.size w2 (.slice a4 n4 c4) xr) := Lib.hid ((H1.out.1.mono TD.out.be.size).below H2.out.2)
          have mA : ∀ ob, (w2.alloc ob).cell? ⟨bo, 5, none⟩ = some (.slice a' c' d') := (fun ob => by rw [((Below.refl w2.heap.size w2).alloc (Nat.le_refl _) ob).cell (block_lt_of_cell t5)]; exact t5)
          have AL : ∀ ob, (w2.alloc ob).cell? ⟨b6, 0, none⟩ = some (.string xn) ∧ (w2.alloc ob).cell? ⟨b6, 1, none⟩ = some (.slice ra1 ra2 ra3) ∧ (w2.alloc ob).cell? ⟨b6, 2, none⟩ = some (.slice rb1 rb2 rb3) := (fun ob => ⟨by rw [((Below.refl w2.heap.size w2).alloc (Nat.le_refl _) ob).cell (block_lt_of_cell t0)]; exact t0, by rw [((Below.refl w2.heap.size w2).alloc (Nat.le_refl _) ob).cell (block_lt_of_cell t1)]; exact t1, by rw [((Below.refl w2.heap.size w2).alloc (Nat.le_refl _) ob).cell (block_lt_of_cell t2)]; exact t2⟩)
          have LB : Hid (w.heap.size ≤ w2.heap.size) := Lib.hid S2.out.be.size
          refine hK.out _ _ ⟨⟨t0, t1, t2⟩, fun _ => t5⟩ ?_
          clear hK K
          try simp only [Act.put, List.setIfInBounds_toArray, List.set_cons_zero, List.set_cons_succ]
          refine two_take0 (i := 10) (oi := { dst := some 49, op := Op.build 35 #[(0, Operand.tmp 42), (1, Operand.tmp 45), (2, Operand.tmp 48)], type := 35, pos := "law.go:29", after := #[{ on := 3, ground := Ground.data }, { on := 6, ground := Ground.data }, { on := 9, ground := Ground.data }], guard := none }) (v := ?v10) rfl (by kernel_rfl) (by kernel_rfl) (by kernel_rfl) rfl (fun _ _ _ h => h) (Or.inl ⟨by rfl, ?y10⟩) ⟨⟨t0, t1, t2⟩, fun _ => t5⟩ ?r10
          case y10 => (intro wS hS; obtain ⟨i0, i1, i2⟩ := hS; go_simp; (try with_reducible rfl))
          try simp only [Act.put, List.setIfInBounds_toArray, List.set_cons_zero, List.set_cons_succ]
          refine two_one (j := 11) (o := { dst := some 50, op := Op.buildSlice 23 1 #[(0, Operand.tmp 49)], type := 23, pos := "law.go:29", after := #[{ on := 10, ground := Ground.data }], guard := none }) (by kernel_rfl) rfl (fun K hK => ?_)
          go_simp
          refine hK.out _ _ ⟨AL _, fun _ => mA _⟩ ?_
          clear hK K
          try simp only [Act.put, List.setIfInBounds_toArray, List.set_cons_zero, List.set_cons_succ]
          refine two_one (j := 12) (o := { dst := some 51, op := Op.call { callee := Callee.builtin Builtin.append, args := #[Operand.tmp 40, Operand.tmp 50], argTypes := #[23, 23] }, type := 23, pos := "law.go:29", after := #[{ on := 1, ground := Ground.data }, { on := 11, ground := Ground.data }, { on := 9, ground := Ground.chain }], guard := none }) (by kernel_rfl) rfl (fun K hK => ?_)
          refine step_rowB okPt rfl (.tmp 40) (.tmp 50) rfl (B := w.heap.size) (w0 := w2) (v := .slice a' c' d') (es := rs) rfl S2.out.p LB.out ⟨xn, ⟨a4, n4, c4⟩, ⟨a5, n5, c5⟩⟩ rfl rfl LN.out ?_
          intro a6 n6 c6 w7 H7
          have GN := Lib.hid (S2.out.rows (grown_kept H7.out.2.1) (own_tb S2.out.p _ (by decide))).2.2
          have f2 : w7.frozen? ⟨bo, 5, none⟩ = false := frozen_of_row _ _ _ _ _ GN.out
          have z2 : w7.cell? ⟨bo, 5, none⟩ = some (.slice a' c' d') := (by rw [cell_of_row w7 _ 5 _ _ _ GN.out]; rfl)
          have S7 : w7.cell? ⟨b6, 0, none⟩ = some (.string xn) ∧ w7.cell? ⟨b6, 1, none⟩ = some (.slice ra1 ra2 ra3) ∧ w7.cell? ⟨b6, 2, none⟩ = some (.slice rb1 rb2 rb3) := ⟨(grown_cell H7.out.2.1 NE.out.1 (block_lt_of_cell t0)).trans t0, (grown_cell H7.out.2.1 NE.out.1 (block_lt_of_cell t1)).trans t1, (grown_cell H7.out.2.1 NE.out.1 (block_lt_of_cell t2)).trans t2⟩
          have SS : ∀ y, (w7.setCell ⟨bo, 5, none⟩ y).cell? ⟨b6, 0, none⟩ = some (.string xn) ∧ (w7.setCell ⟨bo, 5, none⟩ y).cell? ⟨b6, 1, none⟩ = some (.slice ra1 ra2 ra3) ∧ (w7.setCell ⟨bo, 5, none⟩ y).cell? ⟨b6, 2, none⟩ = some (.slice rb1 rb2 rb3) := (fun y => ⟨(set_cell NE.out.2 (block_lt_of_cell S7.1)).trans S7.1, (set_cell NE.out.2 (block_lt_of_cell S7.2.1)).trans S7.2.1, (set_cell NE.out.2 (block_lt_of_cell S7.2.2)).trans S7.2.2⟩)
          refine hK.out _ _ ⟨S7, fun q => absurd (show (true : Bool) = false from q) (by decide)⟩ ?_
          clear hK K
          try simp only [Act.put, List.setIfInBounds_toArray, List.set_cons_zero, List.set_cons_succ]
          refine two_take0 (i := 13) (oi := { dst := some 52, op := Op.fieldAddr 25 (Operand.tmp 3) 5, type := 0, pos := "law.go:29", after := #[{ on := 0, ground := Ground.phase }, { on := 1, ground := Ground.phase }, { on := 2, ground := Ground.phase }, { on := 3, ground := Ground.phase }, { on := 4, ground := Ground.phase }, { on := 5, ground := Ground.phase }, { on := 6, ground := Ground.phase }, { on := 7, ground := Ground.phase }, { on := 8, ground := Ground.phase }, { on := 9, ground := Ground.phase }, { on := 10, ground := Ground.phase }, { on := 11, ground := Ground.phase }, { on := 12, ground := Ground.phase }], guard := none }) (v := ?v13) rfl (by kernel_rfl) (by kernel_rfl) (by kernel_rfl) rfl (fun _ _ _ h => h) (Or.inl ⟨by rfl, ?y13⟩) ⟨S7, fun q => absurd (show (true : Bool) = false from q) (by decide)⟩ ?r13
          case y13 => (intro wS hS; obtain ⟨i0, i1, i2⟩ := hS; go_simp; (try with_reducible rfl))
          try simp only [Act.put, List.setIfInBounds_toArray, List.set_cons_zero, List.set_cons_succ]
          refine two_one (j := 14) (o := { dst := none, op := Op.store 23 (Operand.tmp 52) (Operand.tmp 51), type := 0, pos := "law.go:29", after := #[{ on := 13, ground := Ground.data }, { on := 12, ground := Ground.data }, { on := 12, ground := Ground.chain }, { on := 0, ground := Ground.phase }, { on := 1, ground := Ground.phase }, { on := 2, ground := Ground.phase }, { on := 3, ground := Ground.phase }, { on := 4, ground := Ground.phase }, { on := 5, ground := Ground.phase }, { on := 6, ground := Ground.phase }, { on := 7, ground := Ground.phase }, { on := 8, ground := Ground.phase }, { on := 9, ground := Ground.phase }, { on := 10, ground := Ground.phase }, { on := 11, ground := Ground.phase }, { on := 12, ground := Ground.phase }], guard := none }) (by kernel_rfl) rfl (fun K hK => ?_)
          go_simp
          refine hK.out _ _ ⟨SS _, fun q => absurd (show (true : Bool) = false from q) (by decide)⟩ ?_
          clear hK K
          try simp only [Act.put, List.setIfInBounds_toArray, List.set_cons_zero, List.set_cons_succ]
          refine two_done (by kernel_rfl) ?_ _
          refine NoPanic.normal ?_
          · skip
            have S8 := Lib.hid (S2.out.part (y := ⟨xn, xr, xl⟩) H7.out.1 H7.out.2.1 rfl O4.out O3.out)
            rw [← ST.out] at S8
            clear f2 z2 mA t0 t1 t2 t5 q0 q1 q2 q5 x0 x1 x2 d0 d1 d2 e5 g5 k5 AL S7 SS
            obtain ⟨W4, hW4⟩ : ∃ W4, w7.setCell ⟨bo, 5, none⟩ (.slice a6 n6 c6) = W4 := ⟨_, rfl⟩
            rw [hW4] at S8
            rw [hW4]
            clear hW4
            go_wp2_with fail
            go_roundg (np - (k + 1))
            case measure => have := R.out.1; omega
            case rel => exact ⟨k + 1, _, a6, n6, c6, by omega, rfl, by go_num, S8.out⟩
        · have T6 : Hid (OO w w.heap.size (w.heap.size + 1) bo ⟨op, on, ols, opr, odl, ops, ov⟩ (.slice la nl lc) (.slice pa np pc) (.slice a c d) (.slice a' c' d') ols rs ops wr) := Lib.hid (by
            have := R.out.2; rw [List.take_of_length_le (by rw [← HN.out.2]; omega)] at this; exact this)
          have cc : ∀ j y, (#[.string op, .string on, .slice a c d, .int .i64 opr, .int .i64 odl, .slice a' c' d', .int .i64 ov] : Array Value)[j]? = some y → wr.cell? ⟨bo, j, none⟩ = some y := fun j y hy => by rw [cell_of_row wr _ j _ _ _ T6.out.o]; exact hy
          have e0 := cc 0 _ rfl
          have e1 := cc 1 _ rfl
          have e2 := cc 2 _ rfl
          have e3 := cc 3 _ rfl
          have e4 := cc 4 _ rfl
          have e5 := cc 5 _ rfl
          have e6 := cc 6 _ rfl
          have ON : Hid ((#[.string op, .string on, .slice a c d, .int .i64 opr, .int .i64 odl, .slice a' c' d', .int .i64 ov] : Array Value).all (·.oneCell') = true) := Lib.hid (by simp [Value.oneCell'])
          clear cc
          go_wp2_with (refine wpList_store_row rfl 25 (.tmp 2) (.tmp 53) rfl (w.heap.size + 1) #[.string op, .string on, .slice a c d, .int .i64 opr, .int .i64 odl, .slice a' c' d', .int .i64 ov] rfl rfl 25 #[.string ⟨#[]⟩, .string ⟨#[]⟩, .slice none 0 0, .int .i64 0, .int .i64 0, .slice none 0 0, .int .i64 0] T6.out.z size_obj rfl ON.out ?_)
          have D := T6.out.done #[.string op, .string on, .slice a c d, .int .i64 opr, .int .i64 odl, .slice a' c' d', .int .i64 ov]
          refine bodyPost_ret (results_cell_row rfl _ _ (w.heap.size + 1) 25 #[.string op, .string on, .slice a c d, .int .i64 opr, .int .i64 odl, .slice a' c' d', .int .i64 ov] (0, 0) _ rfl (setRow_heap _ _ _ _ _ _ T6.out.z) Tryd.underlying25 rfl size_obj) rfl ?_
          exact ⟨.slice a c d, .slice a' c' d', rfl, D.1, D.2⟩
end Go.Proofs.YthomdgnmoapbkaaDoor
end S9
