/-
  NxO, NxF, NxC, NxD, NxG, NxH, NxI, joined.
-/
import Derived.Test.YtehgnbgbmicheaaGreatDoorObOp
import Derived.Test.YtehgnbgbmicheaaGreatDoorNxG1
import Derived.Test.YtehgnbgbmicheaaGreatDoorNxG2
import Derived.Deep.MidRow
section S0
namespace Go.Proofs.YtehgnbgbmicheaaGreatDoor
open Go.RowKit
namespace Nx
/-- The blocks of a part's lists. -/
def blk (r : Pr) : List Nat := r.r.v.ownBlock.toList ++ r.l.v.ownBlock.toList
/-- No two lists of amounts share a block. -/
def Ap (rs : List Pr) : Prop := (rs.flatMap blk).Nodup
theorem ap_add {rs : List Pr} {r : Pr} (n : Nat) (h : Ap rs) (h1 : ∀ x ∈ rs, (∀ k, x.r.v.ownBlock = some k → k < n) ∧ (∀ k, x.l.v.ownBlock = some k → k < n)) (m : Nat) (h2 : ∀ k, r.r.v.ownBlock = some k → n ≤ k ∧ k < m) (h3 : ∀ k, r.l.v.ownBlock = some k → m ≤ k) (hm : n ≤ m) : Ap (rs ++ [r]) := by
  unfold Ap
  rw [List.flatMap_append, List.nodup_append]
  refine ⟨h, ?_, fun a ha b hb => ?_⟩
  · simp only [List.flatMap_cons, List.flatMap_nil, List.append_nil, blk]
    rw [List.nodup_append]
    refine ⟨by cases r.r.v.ownBlock <;> simp, by cases r.l.v.ownBlock <;> simp, fun a ha b hb => ?_⟩
    have q1 := h2 a (by simpa using ha)
    have q2 := h3 b (by simpa using hb)
    omega
  · obtain ⟨x, hx, hax⟩ := List.mem_flatMap.1 ha
    have q1 : a < n := by
      rcases List.mem_append.1 hax with z | z
      · exact (h1 x hx).1 a (by simpa using z)
      · exact (h1 x hx).2 a (by simpa using z)
    have q2 : n ≤ b := by
      simp only [List.flatMap_cons, List.flatMap_nil, List.append_nil, blk] at hb
      rcases List.mem_append.1 hb with z | z
      · exact (h2 b (by simpa using z)).1
      · have := h3 b (by simpa using z); omega
    omega
theorem nst_lt {B : Nat} {W : World} {rs : List Pr} {ps : List Pt} (h : Nst B W rs ps) : ∀ x ∈ rs, (∀ k, x.r.v.ownBlock = some k → k < W.heap.size) ∧ (∀ k, x.l.v.ownBlock = some k → k < W.heap.size) := fun x hx => by
  obtain ⟨i, hi, rfl⟩ := List.getElem_of_mem hx
  have q := h.2 i (by rw [← h.1]; exact hi)
  rw [List.getD_eq_getElem?_getD, List.getElem?_eq_getElem hi] at q
  exact ⟨fun k e => (q.2.1.lt k e).2, fun k e => (q.2.2.lt k e).2⟩
structure OO (w : World) (bp bz bo : Nat) (x : Ob) (u1 u2 vl vp : Value) (ls : List (ByteArray × ByteArray)) (rs : List Pr) (ps : List Pt) (W : World) : Prop where
  a : W.heap[bp]? = some (.cells #[.string x.p, .string x.n, u1, .int .i64 x.pr, .int .i64 x.dl, u2, .int .i64 x.ver] 25 (0, 0))
  z : W.heap[bz]? = some (.cells #[.string ⟨#[]⟩, .string ⟨#[]⟩, .slice none 0 0, .int .i64 0, .int .i64 0, .slice none 0 0, .int .i64 0] 25 (0, 0))
  o : W.heap[bo]? = some (.cells #[.string x.p, .string x.n, vl, .int .i64 x.pr, .int .i64 x.dl, vp, .int .i64 x.ver] 25 (0, 0))
  l : OwnR kLb w.heap.size W vl ls
  p : OwnR kPt w.heap.size W vp rs
  q : Nst w.heap.size W rs ps
  be : Below w.heap.size w W
  bs : w.heap.size ≤ bp ∧ w.heap.size ≤ bz ∧ w.heap.size ≤ bo ∧ bp ≠ bo ∧ bz ≠ bo
  ap : Ap rs
variable {w W W' : World} {bp bz bo : Nat} {x : Ob} {u1 u2 vl vp : Value} {ls : List (ByteArray × ByteArray)} {rs : List Pr} {ps : List Pt}
theorem OO.below (h : OO w bp bz bo x u1 u2 vl vp ls rs ps W) (hb : Below W.heap.size W W') : OO w bp bz bo x u1 u2 vl vp ls rs ps W' :=
  ⟨by rw [hb.block _ (lt_of_some h.a)]; exact h.a, by rw [hb.block _ (lt_of_some h.z)]; exact h.z, by rw [hb.block _ (lt_of_some h.o)]; exact h.o, h.l.below hb, h.p.below hb, ⟨h.q.1, fun k hk => ⟨(h.q.2 k hk).1, (h.q.2 k hk).2.1.below hb, (h.q.2 k hk).2.2.below hb⟩⟩, h.be.trans (hb.mono h.be.size), h.bs, h.ap⟩
theorem OO.drew (h : OO w bp bz bo x u1 u2 vl vp ls rs ps W) : OO w bp bz bo x u1 u2 vl vp ls rs ps W.drew := h.below ⟨rfl, rfl, rfl, Nat.le_refl _, fun _ _ => rfl⟩
theorem OO.rows (h : OO w bp bz bo x u1 u2 vl vp ls rs ps W) {F : Nat → Prop} (hk : Kept F W W') (hF : ∀ k cs m, F k → W.heap[k]? ≠ some (.cells cs 25 m)) : W'.heap[bp]? = some (.cells #[.string x.p, .string x.n, u1, .int .i64 x.pr, .int .i64 x.dl, u2, .int .i64 x.ver] 25 (0, 0)) ∧ W'.heap[bz]? = some (.cells #[.string ⟨#[]⟩, .string ⟨#[]⟩, .slice none 0 0, .int .i64 0, .int .i64 0, .slice none 0 0, .int .i64 0] 25 (0, 0)) ∧ W'.heap[bo]? = some (.cells #[.string x.p, .string x.n, vl, .int .i64 x.pr, .int .i64 x.dl, vp, .int .i64 x.ver] 25 (0, 0)) :=
  ⟨by rw [hk.block _ (lt_of_some h.a) (fun e => hF _ _ _ e h.a)]; exact h.a, by rw [hk.block _ (lt_of_some h.z) (fun e => hF _ _ _ e h.z)]; exact h.z, by rw [hk.block _ (lt_of_some h.o) (fun e => hF _ _ _ e h.o)]; exact h.o⟩
theorem OO.label (h : OO w bp bz bo x u1 u2 vl vp ls rs ps W) {v' : Value} {y : ByteArray × ByteArray} (ho : OwnR kLb w.heap.size W' v' (ls ++ [y])) (hg : W.grownBy W' vl.ownBlock) : OO w bp bz bo x u1 u2 v' vp (ls ++ [y]) rs ps (W'.setCell ⟨bo, 2, none⟩ v') := by
  have hk := grown_kept hg
  obtain ⟨ga, gz, go⟩ := h.rows hk (own_tb h.l _ (by decide))
  have k2 : Kept (fun k => k = bo) W' (W'.setCell ⟨bo, 2, none⟩ v') := kept_set _ _ _ rfl
  have hb := h.bs
  have bW : Below w.heap.size w W' := h.be.trans (grown_belowR hg h.l h.be.size)
  exact ⟨by rw [k2.block bp (lt_of_some ga) (by omega)]; exact ga, by rw [k2.block bz (lt_of_some gz) (by omega)]; exact gz, by rw [Go.heap_setCell_same W' bo 2 _ _ _ go]; rfl, ho.kept_ty k2 (row_tb go _ (by decide)), (h.p.kept_ty hk (own_tb h.l _ (by decide))).kept_ty k2 (row_tb go _ (by decide)), (h.q.kept hk (own_tb h.l _ (by decide))).kept k2 (row_tb go _ (by decide)), bW.trans (k2.below bW.size (fun x hx => by omega)), h.bs, h.ap⟩
theorem OO.part (h : OO w bp bz bo x u1 u2 vl vp ls rs ps W) {v' : Value} {r : Pr} {y : Pt} (ho : OwnR kPt w.heap.size W' v' (rs ++ [r])) (hg : W.grownBy W' vp.ownBlock) (h1 : r.n = y.n) (h2 : OwnR kAm w.heap.size W r.r.v y.r) (h3 : OwnR kAm w.heap.size W r.l.v y.l) (hap : Ap (rs ++ [r])) : OO w bp bz bo x u1 u2 vl v' ls (rs ++ [r]) (ps ++ [y]) (W'.setCell ⟨bo, 5, none⟩ v') := by
  have hk := grown_kept hg
  obtain ⟨ga, gz, go⟩ := h.rows hk (own_tb h.p _ (by decide))
  have k2 : Kept (fun k => k = bo) W' (W'.setCell ⟨bo, 5, none⟩ v') := kept_set _ _ _ rfl
  have hb := h.bs
  have bW : Below w.heap.size w W' := h.be.trans (grown_belowR hg h.p h.be.size)
  exact ⟨by rw [k2.block bp (lt_of_some ga) (by omega)]; exact ga, by rw [k2.block bz (lt_of_some gz) (by omega)]; exact gz, by rw [Go.heap_setCell_same W' bo 5 _ _ _ go]; rfl, (h.l.kept_ty hk (own_tb h.p _ (by decide))).kept_ty k2 (row_tb go _ (by decide)), ho.kept_ty k2 (row_tb go _ (by decide)), ((h.q.add h1 h2 h3).kept hk (own_tb h.p _ (by decide))).kept k2 (row_tb go _ (by decide)), bW.trans (k2.below bW.size (fun x hx => by omega)), h.bs, hap⟩
theorem OO.done (h : OO w bp bz bo x u1 u2 vl vp ls rs ps W) (cs : Array Value) : (∃ r, OwnR kLb w.heap.size (W.setRow bz cs) vl ls ∧ OwnR kPt w.heap.size (W.setRow bz cs) vp r ∧ Nst w.heap.size (W.setRow bz cs) r ps ∧ Ap r) ∧ Below w.heap.size w (W.setRow bz cs) := by
  have hk := kept_setRow W bz cs
  have hb := h.bs
  exact ⟨⟨rs, h.l.kept_ty hk (row_tb h.z _ (by decide)), h.p.kept_ty hk (row_tb h.z _ (by decide)), h.q.kept hk (row_tb h.z _ (by decide)), h.ap⟩, h.be.trans (hk.below h.be.size (fun x hx => by omega))⟩
/-- An object whose lists are the call's own, each by itself. -/
def ObA (B : Nat) (W : World) (vl vp : Value) (x : Ob) : Prop := ∃ rs, OwnR kLb B W vl x.ls ∧ OwnR kPt B W vp rs ∧ Nst B W rs x.ps ∧ Ap rs
set_option maxHeartbeats 16000000 in
set_option maxRecDepth 100000 in
theorem ownObject_ap (x : Ob) (u v : Value) (w : World) (hx : ObV w u v x) (hl : x.ls.length * 32 ≤ 140737488355328) (hp : x.ps.length * 64 ≤ 140737488355328) (hq : ∀ y ∈ x.ps, y.r.length * 24 ≤ 140737488355328 ∧ y.l.length * 24 ≤ 140737488355328) :
    Calls Tryz.prog 6 #[x.val u v] w fun e w' => ∃ vl vp, e = .returned (x.val vl vp) ∧ ObA w.heap.size w' vl vp x ∧ Below w.heap.size w w' := by
  obtain ⟨op, on, ols, opr, odl, ops, ov⟩ := x
  simp only at hl hp hq
  have V := Lib.hid hx
  obtain ⟨la, lc, rfl, hlc, hcm⟩ := hx.l.len
  obtain ⟨pa, pc, rfl, hlp, hcp⟩ := hx.p.len
  unfold maxLen at hcm hcp
  unfold Ob.val
  simp only at hlc hlp V ⊢
  obtain ⟨nl, hnl⟩ : ∃ nl, nl = ols.length := ⟨_, rfl⟩
  obtain ⟨np, hnp⟩ : ∃ np, np = ops.length := ⟨_, rfl⟩
  rw [← hnl] at hlc hl V ⊢
  rw [← hnp] at hlp hp V ⊢
  have HN := Lib.hid (And.intro hnl hnp)
  have HQ := Lib.hid hq
  clear hx hnl hnp hq
  obtain ⟨X1, hX1⟩ : ∃ X1, X1 = w.alloc (.cells #[.string op, .string on, (.slice la nl lc), .int .i64 opr, .int .i64 odl, (.slice pa np pc), .int .i64 ov] 25) := ⟨_, rfl⟩
  obtain ⟨X2, hX2⟩ : ∃ X2, X2 = X1.alloc (.cells #[.string ⟨#[]⟩, .string ⟨#[]⟩, .slice none 0 0, .int .i64 0, .int .i64 0, .slice none 0 0, .int .i64 0] 25) := ⟨_, rfl⟩
  obtain ⟨X3, hX3⟩ : ∃ X3, X3 = X2.alloc (.cells #[.string op, .string on, .slice none 0 0, .int .i64 opr, .int .i64 odl, .slice none 0 0, .int .i64 ov] 25) := ⟨_, rfl⟩
  have s1 : X1.heap.size = w.heap.size + 1 := by rw [hX1]; simp
  have s2 : X2.heap.size = w.heap.size + 2 := by rw [hX2]; simp [s1]
  have B1 : Below w.heap.size w X1 := by rw [hX1]; exact (Below.refl _ w).alloc (Nat.le_refl _) _
  have B2 : Below X1.heap.size X1 X2 := by rw [hX2]; exact (Below.refl _ X1).alloc (Nat.le_refl _) _
  have B3 : Below X2.heap.size X2 X3 := by rw [hX3]; exact (Below.refl _ X2).alloc (Nat.le_refl _) _
  have r1 : X1.heap[w.heap.size]? = some (.cells #[.string op, .string on, (.slice la nl lc), .int .i64 opr, .int .i64 odl, (.slice pa np pc), .int .i64 ov] 25 (0, 0)) := by rw [hX1, heap_alloc_new]
  have r2 : X2.heap[w.heap.size + 1]? = some (.cells #[.string ⟨#[]⟩, .string ⟨#[]⟩, .slice none 0 0, .int .i64 0, .int .i64 0, .slice none 0 0, .int .i64 0] 25 (0, 0)) := by rw [hX2, ← s1, heap_alloc_new]
  have r3 : X3.heap[w.heap.size + 2]? = some (.cells #[.string op, .string on, .slice none 0 0, .int .i64 opr, .int .i64 odl, .slice none 0 0, .int .i64 ov] 25 (0, 0)) := by rw [hX3, ← s2, heap_alloc_new]
  have BB : Below w.heap.size w X3 := (B1.trans (B2.mono B1.size)).trans (B3.mono (by omega))
  obtain ⟨bo, hbo⟩ : ∃ bo, bo = w.heap.size + 1 + 1 := ⟨_, rfl⟩
  have T0 : Aside (OO w w.heap.size (w.heap.size + 1) bo ⟨op, on, ols, opr, odl, ops, ov⟩ (.slice la nl lc) (.slice pa np pc) (.slice none 0 0) (.slice none 0 0) [] [] [] X3) := by
    refine ⟨?_, ?_, by rw [hbo]; exact r3, OwnR.nil _ _ _, OwnR.nil _ _ _, ⟨rfl, fun k hk => by simp at hk⟩, BB, by omega, (show Ap [] from List.nodup_nil)⟩
    · rw [B3.block _ (by omega), B2.block _ (by omega)]; exact r1
    · rw [B3.block _ (by omega)]; exact r2
  have EX : Hid (X3 = ((w.alloc (.cells #[.string op, .string on, (.slice la nl lc), .int .i64 opr, .int .i64 odl, (.slice pa np pc), .int .i64 ov] 25)).alloc (.cells #[.string ⟨#[]⟩, .string ⟨#[]⟩, .slice none 0 0, .int .i64 0, .int .i64 0, .slice none 0 0, .int .i64 0] 25)).alloc (.cells #[.string op, .string on, .slice none 0 0, .int .i64 opr, .int .i64 odl, .slice none 0 0, .int .i64 ov] 25)) := Lib.hid (by rw [hX3, hX2, hX1])
  have HBO := Lib.hid hbo
  clear hX1 hX2 hX3 s1 s2 B1 B2 B3 r1 r2 r3 BB hbo
  go_enter Tryz.func6, Tryz.ntmps6
  go_wp2_with fail
  rw [← EX.out]
  clear EX
  rw [← HBO.out]
  go_loopg [4] nl (fun gg si wr => ∃ (k : Nat) (a : Option Addr) (c d : Nat), k ≤ nl ∧ gg = nl - k ∧ si = .int .i64 k ∧ OO w w.heap.size (w.heap.size + 1) bo ⟨op, on, ols, opr, odl, ops, ov⟩ (.slice la nl lc) (.slice pa np pc) (.slice a c d) (.slice none 0 0) (ols.take k) [] [] wr)
  case atStart => exact ⟨0, none, 0, 0, Nat.zero_le _, rfl, rfl, T0.out⟩
  case round =>
    clear T0
    obtain ⟨k, a, c, d, hk, hg, rfl, hlo⟩ := hrel
    have R : Aside (gk = nl - k ∧ OO w w.heap.size (w.heap.size + 1) bo ⟨op, on, ols, opr, odl, ops, ov⟩ (.slice la nl lc) (.slice pa np pc) (.slice a c d) (.slice none 0 0) (ols.take k) [] [] wr) := ⟨hg, hlo⟩
    have k2 : wr.cell? ⟨w.heap.size, 2, none⟩ = some (.slice la nl lc) := by rw [cell_of_row wr _ 2 _ _ _ hlo.a]; rfl
    clear hg hlo
    by_cases hlt : k < nl
    · have hlt' : (k : Int) < (nl : Int) := by omega
      have hlt2 : k < ols.length := by rw [← HN.out.1]; exact hlt
      obtain ⟨b, off, rfl, pc9⟩ := (V.out.l.below R.out.2.be).at k hlt2
      simp only at pc9
      have ST := Lib.hid (take_onez ols k kLb.z hlt2)
      have LN : Hid (((ols.take k).length + 1) * kLb.b ≤ 140737488355328) := Lib.hid (by rw [List.length_take]; show (min k ols.length + 1) * 32 ≤ 140737488355328; omega)
      obtain ⟨y, hy⟩ : ∃ y, y = ols.getD k kLb.z := ⟨_, rfl⟩
      rw [← hy] at pc9 ST
      clear hy hlt2
      obtain ⟨acc, hacc⟩ : ∃ acc, acc = ols.take k := ⟨_, rfl⟩
      rw [← hacc] at ST LN R
      clear hacc
      obtain ⟨y1, y2⟩ := y
      have TD := Lib.hid R.out.2.drew
      have dc : ∀ ad v, wr.cell? ad = some v → wr.drew.cell? ad = some v := fun ad v q => q
      have p0 := dc _ _ (show wr.cell? ⟨b, off + k * 2, none⟩ = some (.string y1) from pc9 0 _ rfl)
      have p1 := dc _ _ (show wr.cell? ⟨b, off + k * 2 + 1, none⟩ = some (.string y2) from pc9 1 _ rfl)
      have e2 : wr.drew.cell? ⟨bo, 2, none⟩ = some (.slice a c d) := by rw [cell_of_row wr.drew _ 2 _ _ _ TD.out.o]; rfl
      have a2 := dc _ _ k2
      have LB : Hid (w.heap.size ≤ wr.drew.heap.size) := Lib.hid TD.out.be.size
      have mA : ∀ ob, (wr.drew.alloc ob).cell? ⟨bo, 2, none⟩ = some (.slice a c d) := fun ob => by rw [((Below.refl wr.drew.heap.size wr.drew).alloc (Nat.le_refl _) ob).cell (block_lt_of_cell e2)]; exact e2
      have mB : ∀ ob, (wr.alloc ob).cell? ⟨bo, 2, none⟩ = some (.slice a c d) := fun ob => mA ob
      have e3 : wr.cell? ⟨bo, 2, none⟩ = some (.slice a c d) := e2
      clear pc9 dc
      go_wp2_with fail
      go_region_law (first | (refine step_rowB okLb rfl (.tmp 18) (.tmp 24) rfl (B := w.heap.size) (w0 := wr.drew) (v := .slice a c d) (es := acc) rfl TD.out.l LB.out (y1, y2) rfl rfl LN.out ?_; intro a3 n3 c3 w7 H7; have GN := Lib.hid (TD.out.rows (grown_kept H7.out.2.1) (own_tb TD.out.l _ (by decide))).2.2; have f2 : w7.frozen? ⟨bo, 2, none⟩ = false := frozen_of_row _ _ _ _ _ GN.out; have z2 : w7.cell? ⟨bo, 2, none⟩ = some (.slice a c d) := by rw [cell_of_row w7 _ 2 _ _ _ GN.out]; rfl))
      all_goals
        have S8 := Lib.hid (TD.out.label H7.out.1 H7.out.2.1)
        rw [← ST.out] at S8
        clear f2 z2 mA mB e3 e2 a2 k2 p0 p1
        obtain ⟨W4, hW4⟩ : ∃ W4, w7.setCell ⟨bo, 2, none⟩ (.slice a3 n3 c3) = W4 := ⟨_, rfl⟩
        rw [hW4] at S8
        rw [hW4]
        clear hW4
        go_wp2_with fail
        go_roundg (nl - (k + 1))
        case measure => have := R.out.1; omega
        case rel => exact ⟨k + 1, a3, n3, c3, by omega, rfl, by go_num, S8.out⟩
    · have T1 : Aside (OO w w.heap.size (w.heap.size + 1) bo ⟨op, on, ols, opr, odl, ops, ov⟩ (.slice la nl lc) (.slice pa np pc) (.slice a c d) (.slice none 0 0) ols [] [] wr) := by
        have := R.out.2; rw [List.take_of_length_le (by rw [← HN.out.1]; omega)] at this; exact this
      clear R
      go_wp2_with fail
      clear k2
      go_loopg [5] np (fun gg si ws => ∃ (k : Nat) (rs : List Pr) (a' : Option Addr) (c' d' : Nat), k ≤ np ∧ gg = np - k ∧ si = .int .i64 k ∧ OO w w.heap.size (w.heap.size + 1) bo ⟨op, on, ols, opr, odl, ops, ov⟩ (.slice la nl lc) (.slice pa np pc) (.slice a c d) (.slice a' c' d') ols rs (ops.take k) ws)
      case atStart => exact ⟨0, [], none, 0, 0, Nat.zero_le _, rfl, rfl, T1.out⟩
      case round =>
        clear T1
        obtain ⟨k, rs, a', c', d', hk', hg, rfl, hlo⟩ := hrel
        have R : Aside (gk = np - k ∧ OO w w.heap.size (w.heap.size + 1) bo ⟨op, on, ols, opr, odl, ops, ov⟩ (.slice la nl lc) (.slice pa np pc) (.slice a c d) (.slice a' c' d') ols rs (ops.take k) wr) := ⟨hg, hlo⟩
        have k5 : wr.cell? ⟨w.heap.size, 5, none⟩ = some (.slice pa np pc) := by rw [cell_of_row wr _ 5 _ _ _ hlo.a]; rfl
        clear hg hlo
        by_cases hlt : k < np
        · have hlt' : (k : Int) < (np : Int) := by omega
          have hlt2 : k < ops.length := by rw [← HN.out.2]; exact hlt
          obtain ⟨b, off, ra, rb, rfl, c0, c1, c2, hra, hrb⟩ := (V.out.p.below R.out.2.be).at k hlt2
          simp only at c0 c1 c2 hra hrb
          obtain ⟨y, hy⟩ : ∃ y, y = ops.getD k ⟨⟨#[]⟩, [], []⟩ := ⟨_, rfl⟩
          have HS := HQ.out _ (getD_in (d := ⟨⟨#[]⟩, [], []⟩) hlt2)
          have ST := Lib.hid (take_onez ops k ⟨⟨#[]⟩, [], []⟩ hlt2)
          have LN : Hid ((rs.length + 1) * kPt.b ≤ 140737488355328) := Lib.hid (by have := R.out.2.q.1; rw [List.length_take] at this; show (rs.length + 1) * 64 ≤ 140737488355328; omega)
          rw [← hy] at c0 hra hrb HS ST
          clear hy hlt2
          obtain ⟨xn, xr, xl⟩ := y
          obtain ⟨ra1, ra2, ra3⟩ := ra
          obtain ⟨rb1, rb2, rb3⟩ := rb
          unfold Sl.v at c1 c2 hra hrb
          simp only at c0 c1 c2 hra hrb HS
          obtain ⟨X, hX⟩ : ∃ X, X = wr.alloc (.cells #[.string xn, .slice ra1 ra2 ra3, .slice rb1 rb2 rb3] 52) := ⟨_, rfl⟩
          obtain ⟨b6, hb6⟩ : ∃ b6, b6 = wr.heap.size := ⟨_, rfl⟩
          have AX : Below wr.heap.size wr X := by rw [hX]; exact (Below.refl _ wr).alloc (Nat.le_refl _) _
          have TX : Hid (OO w w.heap.size (w.heap.size + 1) bo ⟨op, on, ols, opr, odl, ops, ov⟩ (.slice la nl lc) (.slice (some ⟨b, off, none⟩) np pc) (.slice a c d) (.slice a' c' d') ols rs (ops.take k) X) := Lib.hid (R.out.2.below AX)
          have TD := Lib.hid TX.out.drew
          have RW : Hid (Row kAm X.drew (.slice ra1 ra2 ra3) xr ∧ Row kAm X.drew (.slice rb1 rb2 rb3) xl ∧ xr.length * 24 ≤ 140737488355328 ∧ xl.length * 24 ≤ 140737488355328) := Lib.hid ⟨(hra.below AX).below ⟨rfl, rfl, rfl, Nat.le_refl _, fun _ _ => rfl⟩, (hrb.below AX).below ⟨rfl, rfl, rfl, Nat.le_refl _, fun _ _ => rfl⟩, HS.1, HS.2⟩
          have x0 : X.cell? ⟨b6, 0, none⟩ = some (.string xn) := by rw [hX, hb6, World.cell?_alloc_new]; rfl
          have x1 : X.cell? ⟨b6, 1, none⟩ = some (.slice ra1 ra2 ra3) := by rw [hX, hb6, World.cell?_alloc_new]; rfl
          have x2 : X.cell? ⟨b6, 2, none⟩ = some (.slice rb1 rb2 rb3) := by rw [hX, hb6, World.cell?_alloc_new]; rfl
          have d0 : X.drew.cell? ⟨b6, 0, none⟩ = some (.string xn) := x0
          have d1 : X.drew.cell? ⟨b6, 1, none⟩ = some (.slice ra1 ra2 ra3) := x1
          have d2 : X.drew.cell? ⟨b6, 2, none⟩ = some (.slice rb1 rb2 rb3) := x2
          have e5 : X.cell? ⟨bo, 5, none⟩ = some (.slice a' c' d') := by rw [cell_of_row X _ 5 _ _ _ TX.out.o]; rfl
          have g5 : X.drew.cell? ⟨bo, 5, none⟩ = some (.slice a' c' d') := e5
          have NE : Hid ((Value.slice a' c' d').ownBlock ≠ some b6 ∧ b6 ≠ bo) := Lib.hid ⟨fun e => by have := (R.out.2.p.lt _ e).2; omega, by have := lt_of_some R.out.2.o; omega⟩
          have hX' := hX.symm
          have hb6' := hb6.symm
          clear hX hb6 AX hra hrb HS
          go_wp2_with fail
          refine wp_region_noPanic ?_
          refine region_two (fun W' => W'.cell? ⟨b6, 0, none⟩ = some (.string xn) ∧ W'.cell? ⟨b6, 1, none⟩ = some (.slice ra1 ra2 ra3) ∧ W'.cell? ⟨b6, 2, none⟩ = some (.slice rb1 rb2 rb3)) (fun W' => W'.cell? ⟨bo, 5, none⟩ = some (.slice a' c' d')) 12 (by kernel_rfl) ?_
          refine two_take0 (i := 0) (oi := { dst := some 39, op := Op.fieldAddr 25 (Operand.tmp 3) 5, type := 0, pos := "law.go:29", after := #[], guard := none }) (v := ?v0) rfl (by kernel_rfl) (by kernel_rfl) (by kernel_rfl) rfl (fun _ _ _ h => h) (Or.inl ⟨by rfl, ?y0⟩) ⟨⟨d0, d1, d2⟩, fun _ => g5⟩ ?r0
          case y0 => (intro wS hS; obtain ⟨i0, i1, i2⟩ := hS; go_simp; (try with_reducible rfl))
          try simp only [Act.put, List.setIfInBounds_toArray, List.set_cons_zero, List.set_cons_succ]
          refine two_take1 (i := 1) (oi := { dst := some 40, op := Op.load 23 (Operand.tmp 39), type := 23, pos := "law.go:29", after := #[{ on := 0, ground := Ground.data }], guard := none }) (v := ?v1) { dst := some 51, op := Op.call { callee := Callee.builtin Builtin.append, args := #[Operand.tmp 40, Operand.tmp 50], argTypes := #[23, 23] }, type := 23, pos := "law.go:29", after := #[{ on := 1, ground := Ground.data }, { on := 11, ground := Ground.data }, { on := 9, ground := Ground.chain }], guard := none } rfl (by kernel_rfl) (by kernel_rfl) (by kernel_rfl) rfl rfl (by kernel_rfl) (by kernel_rfl) (fun _ _ _ h => h) (Or.inl ⟨by rfl, ?y1⟩) ⟨⟨d0, d1, d2⟩, fun _ => g5⟩ ?r1
          case y1 => (intro wS hS; go_simp; (try with_reducible rfl))
          try simp only [Act.put, List.setIfInBounds_toArray, List.set_cons_zero, List.set_cons_succ]
          refine two_take0 (i := 2) (oi := { dst := some 41, op := Op.fieldAddr 52 (Operand.tmp 6) 0, type := 0, pos := "law.go:29", after := #[], guard := none }) (v := ?v2) rfl (by kernel_rfl) (by kernel_rfl) (by kernel_rfl) rfl (fun _ _ _ h => h) (Or.inl ⟨by rfl, ?y2⟩) ⟨⟨d0, d1, d2⟩, fun _ => g5⟩ ?r2
          case y2 => (intro wS hS; obtain ⟨i0, i1, i2⟩ := hS; go_simp; (try with_reducible rfl))
          try simp only [Act.put, List.setIfInBounds_toArray, List.set_cons_zero, List.set_cons_succ]
          refine two_take0 (i := 3) (oi := { dst := some 42, op := Op.load 9 (Operand.tmp 41), type := 9, pos := "law.go:29", after := #[{ on := 2, ground := Ground.data }], guard := none }) (v := ?v3) rfl (by kernel_rfl) (by kernel_rfl) (by kernel_rfl) rfl (fun _ _ _ h => h) (Or.inl ⟨by rfl, ?y3⟩) ⟨⟨d0, d1, d2⟩, fun _ => g5⟩ ?r3
          case y3 => (intro wS hS; obtain ⟨i0, i1, i2⟩ := hS; go_simp; (try with_reducible rfl))
          try simp only [Act.put, List.setIfInBounds_toArray, List.set_cons_zero, List.set_cons_succ]
          refine two_take0 (i := 4) (oi := { dst := some 43, op := Op.fieldAddr 52 (Operand.tmp 6) 1, type := 0, pos := "law.go:29", after := #[], guard := none }) (v := ?v4) rfl (by kernel_rfl) (by kernel_rfl) (by kernel_rfl) rfl (fun _ _ _ h => h) (Or.inl ⟨by rfl, ?y4⟩) ⟨⟨d0, d1, d2⟩, fun _ => g5⟩ ?r4
          case y4 => (intro wS hS; obtain ⟨i0, i1, i2⟩ := hS; go_simp; (try with_reducible rfl))
          try simp only [Act.put, List.setIfInBounds_toArray, List.set_cons_zero, List.set_cons_succ]
          refine two_take0 (i := 5) (oi := { dst := some 44, op := Op.load 50 (Operand.tmp 43), type := 50, pos := "law.go:29", after := #[{ on := 4, ground := Ground.data }], guard := none }) (v := ?v5) rfl (by kernel_rfl) (by kernel_rfl) (by kernel_rfl) rfl (fun _ _ _ h => h) (Or.inl ⟨by rfl, ?y5⟩) ⟨⟨d0, d1, d2⟩, fun _ => g5⟩ ?r5
          case y5 => (intro wS hS; obtain ⟨i0, i1, i2⟩ := hS; go_simp; (try with_reducible rfl))
          try simp only [Act.put, List.setIfInBounds_toArray, List.set_cons_zero, List.set_cons_succ]
          refine two_take0 (i := 7) (oi := { dst := some 46, op := Op.fieldAddr 52 (Operand.tmp 6) 2, type := 0, pos := "law.go:29", after := #[], guard := none }) (v := ?v7) rfl (by kernel_rfl) (by kernel_rfl) (by kernel_rfl) rfl (fun _ _ _ h => h) (Or.inl ⟨by rfl, ?y7⟩) ⟨⟨d0, d1, d2⟩, fun _ => g5⟩ ?r7
          case y7 => (intro wS hS; obtain ⟨i0, i1, i2⟩ := hS; go_simp; (try with_reducible rfl))
          try simp only [Act.put, List.setIfInBounds_toArray, List.set_cons_zero, List.set_cons_succ]
          refine two_take0 (i := 8) (oi := { dst := some 47, op := Op.load 50 (Operand.tmp 46), type := 50, pos := "law.go:29", after := #[{ on := 7, ground := Ground.data }], guard := none }) (v := ?v8) rfl (by kernel_rfl) (by kernel_rfl) (by kernel_rfl) rfl (fun _ _ _ h => h) (Or.inl ⟨by rfl, ?y8⟩) ⟨⟨d0, d1, d2⟩, fun _ => g5⟩ ?r8
          case y8 => (intro wS hS; obtain ⟨i0, i1, i2⟩ := hS; go_simp; (try with_reducible rfl))
          try simp only [Act.put, List.setIfInBounds_toArray, List.set_cons_zero, List.set_cons_succ]
          refine two_one (j := 6) (o := { dst := some 45, op := Op.call { callee := Callee.value (Operand.func 19), args := #[Operand.tmp 44], argTypes := #[50] }, type := 50, pos := "law.go:29", after := #[{ on := 5, ground := Ground.data }], guard := none }) (by kernel_rfl) rfl (fun K hK => ?_)
          refine step_own rfl (.tmp 44) _ rfl (.slice ra1 ra2 ra3) xr X.drew rfl RW.out.1 RW.out.2.2.1 ?_
          intro a4 n4 c4 w1 H1
          have S1 := Lib.hid (TD.out.below H1.out.2)
          have q0 := (H1.out.2.cell (block_lt_of_cell d0)).trans d0
          have q1 := (H1.out.2.cell (block_lt_of_cell d1)).trans d1
          have q2 := (H1.out.2.cell (block_lt_of_cell d2)).trans d2
          have q5 := (H1.out.2.cell (block_lt_of_cell g5)).trans g5
          have RX := Lib.hid (RW.out.2.1.below H1.out.2)
          refine hK.out _ _ ⟨⟨q0, q1, q2⟩, fun _ => q5⟩ ?_
          clear hK K
          try simp only [Act.put, List.setIfInBounds_toArray, List.set_cons_zero, List.set_cons_succ]
          refine two_one (j := 9) (o := { dst := some 48, op := Op.call { callee := Callee.value (Operand.func 19), args := #[Operand.tmp 47], argTypes := #[50] }, type := 50, pos := "law.go:29", after := #[{ on := 8, ground := Ground.data }, { on := 6, ground := Ground.chain }], guard := none }) (by kernel_rfl) rfl (fun K hK => ?_)
          refine step_own rfl (.tmp 47) _ rfl (.slice rb1 rb2 rb3) xl w1 rfl RX.out RW.out.2.2.2 ?_
          intro a5 n5 c5 w2 H2
          have S2 := Lib.hid (S1.out.below H2.out.2)
          have t0 := (H2.out.2.cell (block_lt_of_cell q0)).trans q0
          have t1 := (H2.out.2.cell (block_lt_of_cell q1)).trans q1
          have t2 := (H2.out.2.cell (block_lt_of_cell q2)).trans q2
          have t5 := (H2.out.2.cell (block_lt_of_cell q5)).trans q5
          have O3 : Hid (OwnR kAm w.heap.size w2 (.slice a5 n5 c5) xl) := Lib.hid (H2.out.1.mono S1.out.be.size)
          have O4 : Hid (OwnR kAm w.heap.size w2 (.slice a4 n4 c4) xr) := Lib.hid ((H1.out.1.mono TD.out.be.size).below H2.out.2)
          have mA : ∀ ob, (w2.alloc ob).cell? ⟨bo, 5, none⟩ = some (.slice a' c' d') := (fun ob => by rw [((Below.refl w2.heap.size w2).alloc (Nat.le_refl _) ob).cell (block_lt_of_cell t5)]; exact t5)
          have AL : ∀ ob, (w2.alloc ob).cell? ⟨b6, 0, none⟩ = some (.string xn) ∧ (w2.alloc ob).cell? ⟨b6, 1, none⟩ = some (.slice ra1 ra2 ra3) ∧ (w2.alloc ob).cell? ⟨b6, 2, none⟩ = some (.slice rb1 rb2 rb3) := (fun ob => ⟨by rw [((Below.refl w2.heap.size w2).alloc (Nat.le_refl _) ob).cell (block_lt_of_cell t0)]; exact t0, by rw [((Below.refl w2.heap.size w2).alloc (Nat.le_refl _) ob).cell (block_lt_of_cell t1)]; exact t1, by rw [((Below.refl w2.heap.size w2).alloc (Nat.le_refl _) ob).cell (block_lt_of_cell t2)]; exact t2⟩)
          have LB : Hid (w.heap.size ≤ w2.heap.size) := Lib.hid S2.out.be.size
          refine hK.out _ _ ⟨⟨t0, t1, t2⟩, fun _ => t5⟩ ?_
          clear hK K
          try simp only [Act.put, List.setIfInBounds_toArray, List.set_cons_zero, List.set_cons_succ]
          refine two_take0 (i := 10) (oi := { dst := some 49, op := Op.build 52 #[(0, Operand.tmp 42), (1, Operand.tmp 45), (2, Operand.tmp 48)], type := 52, pos := "law.go:29", after := #[{ on := 3, ground := Ground.data }, { on := 6, ground := Ground.data }, { on := 9, ground := Ground.data }], guard := none }) (v := ?v10) rfl (by kernel_rfl) (by kernel_rfl) (by kernel_rfl) rfl (fun _ _ _ h => h) (Or.inl ⟨by rfl, ?y10⟩) ⟨⟨t0, t1, t2⟩, fun _ => t5⟩ ?r10
          case y10 => (intro wS hS; obtain ⟨i0, i1, i2⟩ := hS; go_simp; (try with_reducible rfl))
          try simp only [Act.put, List.setIfInBounds_toArray, List.set_cons_zero, List.set_cons_succ]
          refine two_one (j := 11) (o := { dst := some 50, op := Op.buildSlice 23 1 #[(0, Operand.tmp 49)], type := 23, pos := "law.go:29", after := #[{ on := 10, ground := Ground.data }], guard := none }) (by kernel_rfl) rfl (fun K hK => ?_)
          go_simp
          refine hK.out _ _ ⟨AL _, fun _ => mA _⟩ ?_
          clear hK K
          try simp only [Act.put, List.setIfInBounds_toArray, List.set_cons_zero, List.set_cons_succ]
          refine two_one (j := 12) (o := { dst := some 51, op := Op.call { callee := Callee.builtin Builtin.append, args := #[Operand.tmp 40, Operand.tmp 50], argTypes := #[23, 23] }, type := 23, pos := "law.go:29", after := #[{ on := 1, ground := Ground.data }, { on := 11, ground := Ground.data }, { on := 9, ground := Ground.chain }], guard := none }) (by kernel_rfl) rfl (fun K hK => ?_)
          refine step_rowB okPt rfl (.tmp 40) (.tmp 50) rfl (B := w.heap.size) (w0 := w2) (v := .slice a' c' d') (es := rs) rfl S2.out.p LB.out ⟨xn, ⟨a4, n4, c4⟩, ⟨a5, n5, c5⟩⟩ rfl rfl LN.out ?_
          intro a6 n6 c6 w7 H7
          have GN := Lib.hid (S2.out.rows (grown_kept H7.out.2.1) (own_tb S2.out.p _ (by decide))).2.2
          have f2 : w7.frozen? ⟨bo, 5, none⟩ = false := frozen_of_row _ _ _ _ _ GN.out
          have z2 : w7.cell? ⟨bo, 5, none⟩ = some (.slice a' c' d') := (by rw [cell_of_row w7 _ 5 _ _ _ GN.out]; rfl)
          have S7 : w7.cell? ⟨b6, 0, none⟩ = some (.string xn) ∧ w7.cell? ⟨b6, 1, none⟩ = some (.slice ra1 ra2 ra3) ∧ w7.cell? ⟨b6, 2, none⟩ = some (.slice rb1 rb2 rb3) := ⟨(grown_cell H7.out.2.1 NE.out.1 (block_lt_of_cell t0)).trans t0, (grown_cell H7.out.2.1 NE.out.1 (block_lt_of_cell t1)).trans t1, (grown_cell H7.out.2.1 NE.out.1 (block_lt_of_cell t2)).trans t2⟩
          have SS : ∀ y, (w7.setCell ⟨bo, 5, none⟩ y).cell? ⟨b6, 0, none⟩ = some (.string xn) ∧ (w7.setCell ⟨bo, 5, none⟩ y).cell? ⟨b6, 1, none⟩ = some (.slice ra1 ra2 ra3) ∧ (w7.setCell ⟨bo, 5, none⟩ y).cell? ⟨b6, 2, none⟩ = some (.slice rb1 rb2 rb3) := (fun y => ⟨(set_cell NE.out.2 (block_lt_of_cell S7.1)).trans S7.1, (set_cell NE.out.2 (block_lt_of_cell S7.2.1)).trans S7.2.1, (set_cell NE.out.2 (block_lt_of_cell S7.2.2)).trans S7.2.2⟩)
          refine hK.out _ _ ⟨S7, fun q => absurd (show (true : Bool) = false from q) (by decide)⟩ ?_
          clear hK K
          try simp only [Act.put, List.setIfInBounds_toArray, List.set_cons_zero, List.set_cons_succ]
          refine two_take0 (i := 13) (oi := { dst := some 52, op := Op.fieldAddr 25 (Operand.tmp 3) 5, type := 0, pos := "law.go:29", after := #[{ on := 0, ground := Ground.phase }, { on := 1, ground := Ground.phase }, { on := 2, ground := Ground.phase }, { on := 3, ground := Ground.phase }, { on := 4, ground := Ground.phase }, { on := 5, ground := Ground.phase }, { on := 6, ground := Ground.phase }, { on := 7, ground := Ground.phase }, { on := 8, ground := Ground.phase }, { on := 9, ground := Ground.phase }, { on := 10, ground := Ground.phase }, { on := 11, ground := Ground.phase }, { on := 12, ground := Ground.phase }], guard := none }) (v := ?v13) rfl (by kernel_rfl) (by kernel_rfl) (by kernel_rfl) rfl (fun _ _ _ h => h) (Or.inl ⟨by rfl, ?y13⟩) ⟨S7, fun q => absurd (show (true : Bool) = false from q) (by decide)⟩ ?r13
          case y13 => (intro wS hS; obtain ⟨i0, i1, i2⟩ := hS; go_simp; (try with_reducible rfl))
          try simp only [Act.put, List.setIfInBounds_toArray, List.set_cons_zero, List.set_cons_succ]
          refine two_one (j := 14) (o := { dst := none, op := Op.store 23 (Operand.tmp 52) (Operand.tmp 51), type := 0, pos := "law.go:29", after := #[{ on := 13, ground := Ground.data }, { on := 12, ground := Ground.data }, { on := 12, ground := Ground.chain }, { on := 0, ground := Ground.phase }, { on := 1, ground := Ground.phase }, { on := 2, ground := Ground.phase }, { on := 3, ground := Ground.phase }, { on := 4, ground := Ground.phase }, { on := 5, ground := Ground.phase }, { on := 6, ground := Ground.phase }, { on := 7, ground := Ground.phase }, { on := 8, ground := Ground.phase }, { on := 9, ground := Ground.phase }, { on := 10, ground := Ground.phase }, { on := 11, ground := Ground.phase }, { on := 12, ground := Ground.phase }], guard := none }) (by kernel_rfl) rfl (fun K hK => ?_)
          go_simp
          refine hK.out _ _ ⟨SS _, fun q => absurd (show (true : Bool) = false from q) (by decide)⟩ ?_
          clear hK K
          try simp only [Act.put, List.setIfInBounds_toArray, List.set_cons_zero, List.set_cons_succ]
          refine two_done (by kernel_rfl) ?_ _
          refine NoPanic.normal ?_
          · skip
            have S8 := Lib.hid (S2.out.part (y := ⟨xn, xr, xl⟩) H7.out.1 H7.out.2.1 rfl O4.out O3.out (ap_add X.drew.heap.size TD.out.ap (nst_lt TD.out.q) w1.heap.size (fun k e => H1.out.1.lt k e) (fun k e => (H2.out.1.lt k e).1) H1.out.2.size))
            rw [← ST.out] at S8
            clear f2 z2 mA t0 t1 t2 t5 q0 q1 q2 q5 x0 x1 x2 d0 d1 d2 e5 g5 k5 AL S7 SS
            obtain ⟨W4, hW4⟩ : ∃ W4, w7.setCell ⟨bo, 5, none⟩ (.slice a6 n6 c6) = W4 := ⟨_, rfl⟩
            rw [hW4] at S8
            rw [hW4]
            clear hW4
            go_wp2_with fail
            go_roundg (np - (k + 1))
            case measure => have := R.out.1; omega
            case rel => exact ⟨k + 1, _, a6, n6, c6, by omega, rfl, by go_num, S8.out⟩
        · have T6 : Hid (OO w w.heap.size (w.heap.size + 1) bo ⟨op, on, ols, opr, odl, ops, ov⟩ (.slice la nl lc) (.slice pa np pc) (.slice a c d) (.slice a' c' d') ols rs ops wr) := Lib.hid (by
            have := R.out.2; rw [List.take_of_length_le (by rw [← HN.out.2]; omega)] at this; exact this)
          have cc : ∀ j y, (#[.string op, .string on, .slice a c d, .int .i64 opr, .int .i64 odl, .slice a' c' d', .int .i64 ov] : Array Value)[j]? = some y → wr.cell? ⟨bo, j, none⟩ = some y := fun j y hy => by rw [cell_of_row wr _ j _ _ _ T6.out.o]; exact hy
          have e0 := cc 0 _ rfl
          have e1 := cc 1 _ rfl
          have e2 := cc 2 _ rfl
          have e3 := cc 3 _ rfl
          have e4 := cc 4 _ rfl
          have e5 := cc 5 _ rfl
          have e6 := cc 6 _ rfl
          have ON : Hid ((#[.string op, .string on, .slice a c d, .int .i64 opr, .int .i64 odl, .slice a' c' d', .int .i64 ov] : Array Value).all (·.oneCell') = true) := Lib.hid (by simp [Value.oneCell'])
          clear cc
          go_wp2_with (refine wpList_store_row rfl 25 (.tmp 2) (.tmp 53) rfl (w.heap.size + 1) #[.string op, .string on, .slice a c d, .int .i64 opr, .int .i64 odl, .slice a' c' d', .int .i64 ov] rfl rfl 25 #[.string ⟨#[]⟩, .string ⟨#[]⟩, .slice none 0 0, .int .i64 0, .int .i64 0, .slice none 0 0, .int .i64 0] T6.out.z size_obj rfl ON.out ?_)
          have D := T6.out.done #[.string op, .string on, .slice a c d, .int .i64 opr, .int .i64 odl, .slice a' c' d', .int .i64 ov]
          refine bodyPost_ret (results_cell_row rfl _ _ (w.heap.size + 1) 25 #[.string op, .string on, .slice a c d, .int .i64 opr, .int .i64 odl, .slice a' c' d', .int .i64 ov] (0, 0) _ rfl (setRow_heap _ _ _ _ _ _ T6.out.z) Tryz.underlying25 rfl size_obj) rfl ?_
          exact ⟨.slice a c d, .slice a' c' d', rfl, D.1, D.2⟩
end Nx
end Go.Proofs.YtehgnbgbmicheaaGreatDoor
end S0

section S1
namespace Go.Proofs.YtehgnbgbmicheaaGreatDoor
open Go.RowKit
namespace Nx
theorem nodup_fm {α : Type} (f : α → List Nat) : ∀ (l : List α), (l.flatMap f).Nodup → (∀ x ∈ l, (f x).Nodup) ∧ l.Pairwise fun x y => ∀ a ∈ f x, ∀ b ∈ f y, a ≠ b
  | [], _ => ⟨fun x hx => by simp at hx, List.Pairwise.nil⟩
  | x :: r, h => by
    rw [List.flatMap_cons, List.nodup_append] at h
    obtain ⟨q1, q2⟩ := nodup_fm f r h.2.1
    refine ⟨fun y hy => ?_, List.pairwise_cons.2 ⟨fun y hy a ha b hb => h.2.2 a ha b (List.mem_flatMap.2 ⟨y, hy, hb⟩), q2⟩⟩
    rcases List.mem_cons.1 hy with e | e
    · rw [e]; exact h.1
    · exact q1 y e
theorem ap_ne {rs : List Pr} (h : Ap rs) {i j : Nat} (hi : i < rs.length) (hj : j < rs.length) (hne : i ≠ j) {a b : Nat} (ha : a ∈ blk (rs.getD i kPt.z)) (hb : b ∈ blk (rs.getD j kPt.z)) : a ≠ b := by
  have h := nodup_fm blk rs h
  have key : ∀ i j, i < j → (hj : j < rs.length) → ∀ a b, a ∈ blk (rs.getD i kPt.z) → b ∈ blk (rs.getD j kPt.z) → a ≠ b := fun i j hij hj a b ha hb e => by
    have q := List.pairwise_iff_getElem.1 h.2 i j (by omega) hj hij
    rw [List.getD_eq_getElem?_getD, List.getElem?_eq_getElem (by omega)] at ha
    rw [List.getD_eq_getElem?_getD, List.getElem?_eq_getElem hj] at hb
    exact q a ha b hb e
  rcases Nat.lt_or_gt_of_ne hne with q | q
  · exact key i j q hj a b ha hb
  · exact fun e => key j i q hi b a hb ha e.symm
theorem ap_one {rs : List Pr} (h : Ap rs) {i : Nat} (hi : i < rs.length) {a b : Nat} (ha : (rs.getD i kPt.z).r.v.ownBlock = some a) (hb : (rs.getD i kPt.z).l.v.ownBlock = some b) : a ≠ b := by
  have h := nodup_fm blk rs h
  have q := h.1 (rs.getD i kPt.z) (getD_in hi)
  unfold blk at q
  rw [List.nodup_append] at q
  exact q.2.2 a (by rw [ha]; simp) b (by rw [hb]; simp)
theorem mem_r {r : Pr} {g : Nat} (h : r.r.v.ownBlock = some g) : g ∈ blk r := by unfold blk; rw [h]; simp
theorem mem_l {r : Pr} {g : Nat} (h : r.l.v.ownBlock = some g) : g ∈ blk r := by unfold blk; rw [h]; simp
/-- The requests of one part are turned in their place. -/
theorem nst_setR {B : Nat} {W W' : World} {rs : List Pr} {ps : List Pt} (h : Nst B W rs ps) (ha : Ap rs) {k g : Nat} (hk : k < ps.length) (hg : (rs.getD k kPt.z).r.v.ownBlock = some g) (hw : Kept (fun y => y = g) W W') {l : List Am} (ho : OwnR kAm B W' (rs.getD k kPt.z).r.v l) :
    Nst B W' rs (ps.set k ⟨(ps.getD k zP).n, l, (ps.getD k zP).l⟩) := by
  refine ⟨by rw [List.length_set]; exact h.1, fun j hj => ?_⟩
  rw [List.length_set] at hj
  have hl := h.1
  by_cases e : j = k
  · subst e
    have q := h.2 j hj
    rw [List.getD_eq_getElem?_getD (l := ps.set j _), List.getElem?_set_self hj]
    exact ⟨q.1, ho, q.2.2.kept hw (fun x hx e => ap_one ha (by omega) hg hx e.symm)⟩
  · have q := h.2 j hj
    rw [List.getD_eq_getElem?_getD (l := ps.set k _), List.getElem?_set_ne (fun e2 => e e2.symm), ← List.getD_eq_getElem?_getD]
    exact ⟨q.1, q.2.1.kept hw (fun x hx e2 => ap_ne ha (by omega) (by omega) e (mem_r hx) (mem_r hg) e2), q.2.2.kept hw (fun x hx e2 => ap_ne ha (by omega) (by omega) e (mem_l hx) (mem_r hg) e2)⟩
/-- The limits of one part are turned in their place. -/
theorem nst_setL {B : Nat} {W W' : World} {rs : List Pr} {ps : List Pt} (h : Nst B W rs ps) (ha : Ap rs) {k g : Nat} (hk : k < ps.length) (hg : (rs.getD k kPt.z).l.v.ownBlock = some g) (hw : Kept (fun y => y = g) W W') {l : List Am} (ho : OwnR kAm B W' (rs.getD k kPt.z).l.v l) :
    Nst B W' rs (ps.set k ⟨(ps.getD k zP).n, (ps.getD k zP).r, l⟩) := by
  refine ⟨by rw [List.length_set]; exact h.1, fun j hj => ?_⟩
  rw [List.length_set] at hj
  have hl := h.1
  by_cases e : j = k
  · subst e
    have q := h.2 j hj
    rw [List.getD_eq_getElem?_getD (l := ps.set j _), List.getElem?_set_self hj]
    exact ⟨q.1, q.2.1.kept hw (fun x hx e => ap_one ha (by omega) hx hg e), ho⟩
  · have q := h.2 j hj
    rw [List.getD_eq_getElem?_getD (l := ps.set k _), List.getElem?_set_ne (fun e2 => e e2.symm), ← List.getD_eq_getElem?_getD]
    exact ⟨q.1, q.2.1.kept hw (fun x hx e2 => ap_ne ha (by omega) (by omega) e (mem_r hx) (mem_l hg) e2), q.2.2.kept hw (fun x hx e2 => ap_ne ha (by omega) (by omega) e (mem_l hx) (mem_l hg) e2)⟩
/-- Two elements exchanged. -/
def swl {α : Type} (z : α) (l : List α) (x y : Nat) : List α := (l.set x (l.getD y z)).set y (l.getD x z)
theorem swl_len {α : Type} (z : α) (l : List α) (x y : Nat) : (swl z l x y).length = l.length := by unfold swl; rw [List.length_set, List.length_set]
theorem swl_get {α : Type} (z : α) (l : List α) (x y k : Nat) (hx : x < l.length) (hy : y < l.length) : (swl z l x y).getD k z = if k = y then l.getD x z else if k = x then l.getD y z else l.getD k z := by
  unfold swl
  rw [List.getD_eq_getElem?_getD]
  by_cases h1 : k = y
  · subst h1
    rw [if_pos rfl, List.getElem?_set_self (by rw [List.length_set]; exact hy)]; rfl
  · rw [if_neg h1, List.getElem?_set_ne (fun e => h1 e.symm)]
    by_cases h2 : k = x
    · subst h2
      rw [if_pos rfl, List.getElem?_set_self hx]; rfl
    · rw [if_neg h2, List.getElem?_set_ne (fun e => h2 e.symm), ← List.getD_eq_getElem?_getD]
theorem nst_swap {B : Nat} {W : World} {rs : List Pr} {ps : List Pt} (h : Nst B W rs ps) {x y : Nat} (hx : x < ps.length) (hy : y < ps.length) : Nst B W (swl kPt.z rs x y) (swl zP ps x y) := by
  have hl := h.1
  refine ⟨by rw [swl_len, swl_len]; exact hl, fun k hk => ?_⟩
  rw [swl_len] at hk
  rw [swl_get kPt.z rs x y k (by omega) (by omega), show (swl zP ps x y).getD k (⟨⟨#[]⟩, [], []⟩ : Pt) = _ from swl_get zP ps x y k hx hy]
  by_cases h1 : k = y
  · rw [if_pos h1, if_pos h1]; exact h.2 x hx
  · rw [if_neg h1, if_neg h1]
    by_cases h2 : k = x
    · rw [if_pos h2, if_pos h2]; exact h.2 y hy
    · rw [if_neg h2, if_neg h2]; exact h.2 k hk
end Nx
end Go.Proofs.YtehgnbgbmicheaaGreatDoor
end S1

section S2
namespace Go.Proofs.YtehgnbgbmicheaaGreatDoor
open Go.RowKit Go.Sort Go.Lib
namespace Nx
/-- Two lists of amounts that quant.Normal tells alike. -/
def Al (l m : List Am) : Prop := l.all amB = m.all amB ∧ (∀ n, Tot (ent l) n = Tot (ent m) n) ∧ ∀ n, n ∈ (ent l).map Prod.fst ↔ n ∈ (ent m).map Prod.fst
theorem Al.refl (l : List Am) : Al l l := ⟨rfl, fun _ => rfl, fun _ => Iff.rfl⟩
theorem Al.trans {l m o : List Am} (h : Al l m) (g : Al m o) : Al l o := ⟨h.1.trans g.1, fun n => (h.2.1 n).trans (g.2.1 n), fun n => (h.2.2 n).trans (g.2.2 n)⟩
theorem Al.perm {l m : List Am} (h : l.Perm m) : Al l m := by
  refine ⟨?_, fun n => Tot_perm (ent_perm h) n, fun n => ((ent_perm h).map Prod.fst).mem_iff⟩
  rw [Bool.eq_iff_iff, List.all_eq_true, List.all_eq_true]
  exact ⟨fun q x hx => q x (h.mem_iff.2 hx), fun q x hx => q x (h.mem_iff.1 hx)⟩
theorem Al.nr {l m : List Am} (h : Al l m) : nrE l = nrE m ∧ nrL l = nrL m := by
  have e1 : nmsOf (ent l) = nmsOf (ent m) := nms_of_perm (ded_nodup _) (fun n => by rw [mem_ded]; exact h.2.2 n)
  have e2 : outL (ent l) = outL (ent m) := by
    unfold outL
    rw [e1]
    exact List.map_congr_left fun n _ => by rw [h.2.1 n]
  have e3 : Ov (ent l) ↔ Ov (ent m) := by
    unfold Ov
    exact ⟨fun ⟨n, q⟩ => ⟨n, by rw [← h.2.1 n]; exact q⟩, fun ⟨n, q⟩ => ⟨n, by rw [h.2.1 n]; exact q⟩⟩
  unfold nrE nrL
  rw [e1, e2, h.1]
  by_cases g : Ov (ent m)
  · have g' := e3.2 g
    simp only [g, g', if_true]
    exact ⟨trivial, trivial⟩
  · have g' : ¬ Ov (ent l) := fun q => g (e3.1 q)
    simp only [g, g', if_false]
    exact ⟨trivial, trivial⟩
/-- The k-th amount cut: c of it stands at the end. -/
def cut (l : List Am) (k : Nat) (c : Int) : List Am := l.set k ⟨(l.getD k kAm.z).n, (l.getD k kAm.z).v - c⟩ ++ [⟨(l.getD k kAm.z).n, c⟩]
theorem cut_len (l : List Am) (k : Nat) (c : Int) : (cut l k c).length = l.length + 1 := by unfold cut; rw [List.length_append, List.length_set]; rfl
theorem cut_zero (x : Am) (r : List Am) (c : Int) : cut (x :: r) 0 c = (⟨x.n, x.v - c⟩ : Am) :: (r ++ [⟨x.n, c⟩]) := rfl
theorem cut_succ (x : Am) (r : List Am) (k : Nat) (c : Int) : cut (x :: r) (k + 1) c = x :: cut r k c := rfl
theorem ent_cons (x : Am) (r : List Am) : ent (x :: r) = (x.n.data.toList, x.v) :: ent r := rfl
theorem cut_tot : ∀ (l : List Am) (k : Nat) (c : Int) (n : List UInt8), k < l.length → Tot (ent (cut l k c)) n = Tot (ent l) n
  | [], _, _, _, h => absurd h (by simp)
  | x :: r, 0, c, n, _ => by
    rw [cut_zero, ent_cons, ent_cons, ent_app, Tot, Tot, Tot_app, show ent [(⟨x.n, c⟩ : Am)] = [(x.n.data.toList, c)] from rfl, Tot_one]
    simp only
    split <;> omega
  | x :: r, k + 1, c, n, h => by
    rw [cut_succ, ent_cons, ent_cons, Tot, Tot, cut_tot r k c n (by simpa using h)]
theorem cut_nms : ∀ (l : List Am) (k : Nat) (c : Int) (n : List UInt8), k < l.length → (n ∈ (ent (cut l k c)).map Prod.fst ↔ n ∈ (ent l).map Prod.fst)
  | [], _, _, _, h => absurd h (by simp)
  | x :: r, 0, c, n, _ => by
    rw [cut_zero, ent_cons, ent_cons, ent_app, show ent [(⟨x.n, c⟩ : Am)] = [(x.n.data.toList, c)] from rfl]
    simp only [List.map_cons, List.map_append, List.map_nil, List.mem_cons, List.mem_append, List.not_mem_nil, or_false]
    constructor
    · rintro (q | q | q)
      · exact Or.inl q
      · exact Or.inr q
      · exact Or.inl q
    · rintro (q | q)
      · exact Or.inl q
      · exact Or.inr (Or.inl q)
  | x :: r, k + 1, c, n, h => by
    rw [cut_succ, ent_cons, ent_cons, List.map_cons, List.map_cons, List.mem_cons, List.mem_cons, cut_nms r k c n (by simpa using h)]
theorem amB_of {n : ByteArray} {v w : Int} (hv : 0 ≤ v) (hw : 0 ≤ w) : amB ⟨n, v⟩ = amB ⟨n, w⟩ := by
  unfold amB
  simp only [hv, hw, decide_true]
theorem cut_all : ∀ (l : List Am) (k : Nat) (c : Int), k < l.length → 0 ≤ c → c ≤ (l.getD k kAm.z).v → (cut l k c).all amB = l.all amB
  | [], _, _, h, _, _ => absurd h (by simp)
  | x :: r, 0, c, _, h0, h1 => by
    have h1' : c ≤ x.v := h1
    rw [cut_zero, List.all_cons, List.all_cons, List.all_append, List.all_cons, List.all_nil, amB_of (n := x.n) (v := x.v - c) (w := x.v) (by omega) (by omega), amB_of (n := x.n) (v := c) (w := x.v) (by omega) (by omega)]
    cases amB ⟨x.n, x.v⟩ <;> simp
  | x :: r, k + 1, c, h, h0, h1 => by
    rw [cut_succ, List.all_cons, List.all_cons, cut_all r k c (by simpa using h) h0 h1]
theorem Al.cut {l : List Am} {k : Nat} {c : Int} (h : k < l.length) (h0 : 0 ≤ c) (h1 : c ≤ (l.getD k kAm.z).v) : Al (Nx.cut l k c) l :=
  ⟨cut_all l k c h h0 h1, fun n => cut_tot l k c n h, fun n => cut_nms l k c n h⟩
theorem cut_le {l : List Am} {k : Nat} {c : Int} {M : Int} (h : k < l.length) (h0 : 0 ≤ c) (h1 : c ≤ (l.getD k kAm.z).v) (hm : ∀ x ∈ l, x.v ≤ M) : ∀ x ∈ Nx.cut l k c, x.v ≤ M := by
  have hk : (l.getD k kAm.z).v ≤ M := by rw [getD_ge _ _ _ h]; exact hm _ (List.getElem_mem h)
  intro x hx
  unfold Nx.cut at hx
  rcases List.mem_append.1 hx with q | q
  · rcases List.mem_or_eq_of_mem_set q with q | q
    · exact hm x q
    · rw [q]; show _ - c ≤ M; omega
  · rw [List.mem_singleton.1 q]; show c ≤ M; omega
/-- A turn of two places. -/
theorem swl_perm {α : Type} (z : α) (l : List α) (x y : Nat) (hx : x < l.length) (hy : y < l.length) : (swl z l x y).Perm l := by
  unfold swl
  rw [getD_ge _ _ _ hx, getD_ge _ _ _ hy]
  exact List.set_set_perm hx hy
/-- A part that is told as another. -/
def ShP (q p : Pt) : Prop := q.n = p.n ∧ Al q.r p.r ∧ Al q.l p.l
theorem ShP.refl (p : Pt) : ShP p p := ⟨rfl, Al.refl _, Al.refl _⟩
theorem ShP.trans {a b c : Pt} (h : ShP a b) (g : ShP b c) : ShP a c := ⟨h.1.trans g.1, h.2.1.trans g.2.1, h.2.2.trans g.2.2⟩
theorem ShP.nr {q p : Pt} (h : ShP q p) : nrP q = nrP p ∧ (okP p → okP q) := by
  obtain ⟨a1, a2⟩ := h.2.1.nr
  obtain ⟨b1, b2⟩ := h.2.2.nr
  refine ⟨?_, fun g => ⟨a1.trans g.1, b1.trans g.2⟩⟩
  unfold nrP
  rw [h.1, a2, b2]
/-- Parts that are told, but for their order, as others, and none refused. -/
def Shp (qs ps : List Pt) : Prop := (qs.map nrP).Perm (ps.map nrP) ∧ ∀ p ∈ qs, okP p
theorem Shp.set {qs ps : List Pt} (h : Shp qs ps) {k : Nat} (hk : k < qs.length) {q : Pt} (hq : ShP q (qs.getD k zP)) : Shp (qs.set k q) ps := by
  rw [getD_ge _ _ _ hk] at hq
  obtain ⟨e, g⟩ := hq.nr
  refine ⟨?_, fun p hp => ?_⟩
  · rw [List.map_set, e, ← List.getElem_map nrP (h := by rw [List.length_map]; exact hk), List.set_getElem_self]
    exact h.1
  · rcases List.mem_or_eq_of_mem_set hp with z | z
    · exact h.2 p z
    · rw [z]; exact g (h.2 _ (List.getElem_mem hk))
theorem Shp.swap {qs ps : List Pt} (h : Shp qs ps) {x y : Nat} (hx : x < qs.length) (hy : y < qs.length) : Shp (swl zP qs x y) ps :=
  ⟨((swl_perm zP qs x y hx hy).map nrP).trans h.1, fun p hp => h.2 p ((swl_perm zP qs x y hx hy).mem_iff.1 hp)⟩
theorem Shp.start {o : Ob} (h : (obR o).2 = 0) (hf : o.Fit) : Shp o.ps o.ps := ⟨List.Perm.refl _, fun p hp => (parts_self h hf p hp).2⟩
/-- Normal of an object's shuffle is that object. -/
theorem nob_sh {o n : Ob} {LS : List (ByteArray × ByteArray)} {SP : List Pt} (hn : (obR n).2 = 0) (hf : n.Fit) (e1 : o.p = n.p ∧ o.n = n.n ∧ o.pr = n.pr ∧ o.dl = n.dl ∧ o.ver = n.ver) (hl : o.ls.Perm n.ls) (hs : Shp o.ps n.ps) (h1 : LS.Perm o.ls) (r1 : LS.Pairwise fun x y => ¬ y.1.data.toList < x.1.data.toList)
    (h2 : SP.Perm o.ps) (r2 : SP.Pairwise fun x y => ¬ y.n.data.toList < x.n.data.toList) : nob o LS SP = n := by
  refine nob_same hn e1 (h1.trans hl) r1 ?_ r2
  have e : n.ps.map nrP = n.ps := by
    conv => rhs; rw [← List.map_id n.ps]
    exact List.map_congr_left fun p hp => (parts_self hn hf p hp).1
  have q := ((h2.map nrP).trans hs.1)
  rw [e] at q
  exact q
end Nx
end Go.Proofs.YtehgnbgbmicheaaGreatDoor
end S2

section S3
namespace Go.Proofs.YtehgnbgbmicheaaGreatDoor
open Go.RowKit Go.Sort Go.Lib
namespace Nx
/-- The k-th amount cut by the k-th cut, where it may be. -/
def ck1 (cs : List Int) (l : List Am) (k : Nat) : List Am := if 0 < cs.getD k 0 ∧ cs.getD k 0 ≤ (l.getD k kAm.z).v then cut l k (cs.getD k 0) else l
def ckN (cs : List Int) (l : List Am) : Nat → List Am
  | 0 => l
  | k + 1 => ck1 cs (ckN cs l k) k
theorem ck1_len (cs : List Int) (l : List Am) (k : Nat) : l.length ≤ (ck1 cs l k).length ∧ (ck1 cs l k).length ≤ l.length + 1 := by
  unfold ck1
  split
  · rw [cut_len]; omega
  · omega
theorem ckN_len (cs : List Int) (l : List Am) : ∀ k, l.length ≤ (ckN cs l k).length ∧ (ckN cs l k).length ≤ l.length + k
  | 0 => ⟨Nat.le_refl _, Nat.le_refl _⟩
  | k + 1 => by
    have a := ckN_len cs l k
    have b := ck1_len cs (ckN cs l k) k
    show l.length ≤ (ck1 cs (ckN cs l k) k).length ∧ _ ≤ _
    exact ⟨by omega, by show (ck1 cs (ckN cs l k) k).length ≤ _; omega⟩
theorem ck1_al (cs : List Int) (l : List Am) (k : Nat) (h : k < l.length) : Al (ck1 cs l k) l := by
  unfold ck1
  split
  · next g => exact Al.cut h (by omega) g.2
  · exact Al.refl _
theorem ckN_al (cs : List Int) (l : List Am) : ∀ k, k ≤ l.length → Al (ckN cs l k) l
  | 0, _ => Al.refl _
  | k + 1, h => (ck1_al cs _ k (by have := ckN_len cs l k; omega)).trans (ckN_al cs l k (by omega))
/-- What holds of each amount and of each part of it holds behind the cuts. -/
theorem ck1_all {Q : Am → Prop} (cs : List Int) (l : List Am) (k : Nat) (h : k < l.length) (hc : ∀ x v, Q x → 0 ≤ v → v ≤ x.v → Q ⟨x.n, v⟩) (hq : ∀ x ∈ l, Q x) : ∀ x ∈ ck1 cs l k, Q x := by
  unfold ck1
  split
  · next g =>
    have hk : Q (l.getD k kAm.z) := by rw [getD_ge _ _ _ h]; exact hq _ (List.getElem_mem h)
    intro x hx
    unfold cut at hx
    rcases List.mem_append.1 hx with q | q
    · rcases List.mem_or_eq_of_mem_set q with q | q
      · exact hq x q
      · rw [q]; exact hc _ _ hk (by omega) (by omega)
    · rw [List.mem_singleton.1 q]; exact hc _ _ hk (by omega) g.2
  · exact hq
theorem ckN_all {Q : Am → Prop} (cs : List Int) (l : List Am) (hc : ∀ x v, Q x → 0 ≤ v → v ≤ x.v → Q ⟨x.n, v⟩) (hq : ∀ x ∈ l, Q x) : ∀ k, k ≤ l.length → ∀ x ∈ ckN cs l k, Q x
  | 0, _ => hq
  | k + 1, h => ck1_all cs _ k (by have := ckN_len cs l k; omega) hc (ckN_all cs l hc hq k (by omega))
/-- A part's requests cut. -/
def ctP (cs : List Int) (p : Pt) : Pt := ⟨p.n, ckN cs p.r (min p.r.length cs.length), p.l⟩
theorem ctP_sh (cs : List Int) (p : Pt) : ShP (ctP cs p) p := ⟨rfl, ckN_al cs p.r _ (Nat.min_le_left _ _), Al.refl _⟩
/-- The first i parts cut, one by one. -/
def ctN (cs : List Int) (ps : List Pt) : Nat → List Pt
  | 0 => ps
  | i + 1 => (ctN cs ps i).set i (ctP cs ((ctN cs ps i).getD i zP))
theorem ctN_len (cs : List Int) (ps : List Pt) : ∀ i, (ctN cs ps i).length = ps.length
  | 0 => rfl
  | i + 1 => by show ((ctN cs ps i).set i _).length = _; rw [List.length_set, ctN_len cs ps i]
theorem ctN_sh {cs : List Int} {qs ps : List Pt} (h : Shp qs ps) : ∀ i, i ≤ qs.length → Shp (ctN cs qs i) ps
  | 0, _ => h
  | i + 1, hi => (ctN_sh h i (by omega)).set (by rw [ctN_len]; omega) (ctP_sh cs _)
/-- Two places turned, where both are there. -/
def tn {α : Type} (z : α) (x y : Nat) (l : List α) : List α := if x < l.length ∧ y < l.length then swl z l x y else l
theorem tn_perm {α : Type} (z : α) (x y : Nat) (l : List α) : (tn z x y l).Perm l := by
  unfold tn
  split
  · next h => exact swl_perm z l x y h.1 h.2
  · exact List.Perm.refl _
theorem tn_len {α : Type} (z : α) (x y : Nat) (l : List α) : (tn z x y l).length = l.length := (tn_perm z x y l).length_eq
def tnP (x y : Nat) (p : Pt) : Pt := ⟨p.n, tn kAm.z x y p.r, tn kAm.z x y p.l⟩
theorem tnP_sh (x y : Nat) (p : Pt) : ShP (tnP x y p) p := ⟨rfl, Al.perm (tn_perm _ _ _ _), Al.perm (tn_perm _ _ _ _)⟩
/-- The first k parts' lists turned, one by one. -/
def tkN (x y : Nat) (ps : List Pt) : Nat → List Pt
  | 0 => ps
  | k + 1 => (tkN x y ps k).set k (tnP x y ((tkN x y ps k).getD k zP))
theorem tkN_len (x y : Nat) (ps : List Pt) : ∀ i, (tkN x y ps i).length = ps.length
  | 0 => rfl
  | i + 1 => by show ((tkN x y ps i).set i _).length = _; rw [List.length_set, tkN_len x y ps i]
theorem tkN_sh {x y : Nat} {qs ps : List Pt} (h : Shp qs ps) : ∀ i, i ≤ qs.length → Shp (tkN x y qs i) ps
  | 0, _ => h
  | i + 1, hi => (tkN_sh h i (by omega)).set (by rw [tkN_len]; omega) (tnP_sh x y _)
theorem Shp.tn {qs ps : List Pt} (h : Shp qs ps) (x y : Nat) : Shp (Nx.tn zP x y qs) ps := by
  unfold Nx.tn
  split
  · next g => exact h.swap g.1 g.2
  · exact h
/-- Labels and parts. -/
abbrev LP := List (ByteArray × ByteArray) × List Pt
/-- One turn. -/
def tu1 (x y : Int) (s : LP) : LP := if x < 0 ∨ y < 0 then s else (tn kLb.z x.toNat y.toNat s.1, tkN x.toNat y.toNat (tn zP x.toNat y.toNat s.2) s.2.length)
/-- The first j pairs of turns. -/
def tuN (ts : List Int) (s : LP) : Nat → LP
  | 0 => s
  | j + 1 => tu1 (ts.getD (2 * j) 0) (ts.getD (2 * j + 1) 0) (tuN ts s j)
theorem tu1_ok {x y : Int} {s : LP} {ls : List (ByteArray × ByteArray)} {ps : List Pt} (h : s.1.Perm ls ∧ Shp s.2 ps) : (tu1 x y s).1.Perm ls ∧ Shp (tu1 x y s).2 ps := by
  unfold tu1
  split
  · exact h
  · exact ⟨(tn_perm _ _ _ _).trans h.1, tkN_sh (h.2.tn _ _) _ (by rw [tn_len]; exact Nat.le_refl _)⟩
theorem tu1_len (x y : Int) (s : LP) : (tu1 x y s).1.length = s.1.length ∧ (tu1 x y s).2.length = s.2.length := by
  unfold tu1
  split
  · exact ⟨rfl, rfl⟩
  · exact ⟨tn_len _ _ _ _, by rw [tkN_len, tn_len]⟩
theorem tuN_ok {ts : List Int} {s : LP} {ls : List (ByteArray × ByteArray)} {ps : List Pt} (h : s.1.Perm ls ∧ Shp s.2 ps) : ∀ j, (tuN ts s j).1.Perm ls ∧ Shp (tuN ts s j).2 ps
  | 0 => h
  | j + 1 => tu1_ok (tuN_ok h j)
theorem tuN_len (ts : List Int) (s : LP) : ∀ j, (tuN ts s j).1.length = s.1.length ∧ (tuN ts s j).2.length = s.2.length
  | 0 => ⟨rfl, rfl⟩
  | j + 1 => by
    have a := tu1_len (ts.getD (2 * j) 0) (ts.getD (2 * j + 1) 0) (tuN ts s j)
    have b := tuN_len ts s j
    exact ⟨a.1.trans b.1, a.2.trans b.2⟩
/-- The object that shuffled answers. -/
def shf (o : Ob) (ts cs : List Int) : Ob := ⟨o.p, o.n, (tuN ts (o.ls, ctN cs o.ps o.ps.length) (ts.length / 2)).1, o.pr, o.dl, (tuN ts (o.ls, ctN cs o.ps o.ps.length) (ts.length / 2)).2, o.ver⟩
/-- Normal brings a valid object's shuffle back. -/
theorem shf_nob {o : Ob} {ts cs : List Int} {LS : List (ByteArray × ByteArray)} {SP : List Pt} (h : (obR o).2 = 0) (hf : o.Fit) (h1 : LS.Perm (shf o ts cs).ls) (r1 : LS.Pairwise fun x y => ¬ y.1.data.toList < x.1.data.toList)
    (h2 : SP.Perm (shf o ts cs).ps) (r2 : SP.Pairwise fun x y => ¬ y.n.data.toList < x.n.data.toList) : nob (shf o ts cs) LS SP = o := by
  have q := tuN_ok (ts := ts) (s := (o.ls, ctN cs o.ps o.ps.length)) ⟨List.Perm.refl _, ctN_sh (cs := cs) (Shp.start h hf) _ (Nat.le_refl _)⟩ (ts.length / 2)
  exact nob_sh h hf ⟨rfl, rfl, rfl, rfl, rfl⟩ q.1 q.2 h1 r1 h2 r2
theorem shf_ok {o : Ob} {ts cs : List Int} (h : (obR o).2 = 0) (hf : o.Fit) : ∀ p ∈ (shf o ts cs).ps, okP p :=
  (tuN_ok (ts := ts) (s := (o.ls, ctN cs o.ps o.ps.length)) ⟨List.Perm.refl _, ctN_sh (cs := cs) (Shp.start h hf) _ (Nat.le_refl _)⟩ (ts.length / 2)).2.2
end Nx
end Go.Proofs.YtehgnbgbmicheaaGreatDoor
end S3

section S4
namespace Go.Proofs.YtehgnbgbmicheaaGreatDoor
open Go.RowKit Go.Sort Go.Lib
namespace Nx
theorem normal_own (o : Ob) {B : Nat} (u v : Value) (w : World) (hm : L.HasM w) (h : ObO B w u v o) (hfit : o.Fit) (z1 : o.ls.length * 32 ≤ 140737488355328) (z2 : o.ps.length * 64 ≤ 140737488355328)
    (hf : ∀ p ∈ o.ps, p.r.length * 24 ≤ 140737488355328 ∧ p.l.length * 24 ≤ 140737488355328) : Calls Tryz.prog 5 #[o.val u v] w (NoP o w) := by
  obtain ⟨rs, h1, h2, h3⟩ := h
  exact normal_o o u v rs w hm (h1.row okLb) (own_pl h1) (h2.row okPt) (own_pl h2) ⟨h3.1, fun k hk => ⟨(h3.2 k hk).1, (h3.2 k hk).2.1.row okAm, (h3.2 k hk).2.2.row okAm, own_pl (h3.2 k hk).2.1, own_pl (h3.2 k hk).2.2⟩⟩ hfit z1 z2 hf
/-- Of a valid object Normal answers that object. -/
theorem NoP.self {o : Ob} {w w' : World} {e : Ending} (h : NoP o w e w') (hv : (obR o).2 = 0) (hf : o.Fit) : (∃ vl vp, e = .returned (.tuple #[o.val vl vp, .int .i64 0]) ∧ ObO w.heap.size w' vl vp o) ∧ Below w.heap.size w w' := by
  obtain ⟨LS, SP, p1, r1, p2, r2, h3, hb⟩ := h
  have e1 := nob_self hv hf p1 r1 p2 r2
  rw [e1] at h3
  refine ⟨?_, hb⟩
  rcases h3 with ⟨_, _, q⟩ | ⟨_, q, _⟩ | ⟨q, _⟩
  · exact q
  · exact absurd hv q
  · exact absurd (fun p hp => (parts_self hv hf p hp).2) q
/-- Of a valid object's shuffle Normal answers that object. -/
theorem NoP.shf {o : Ob} {ts cs : List Int} {w w' : World} {e : Ending} (h : NoP (Nx.shf o ts cs) w e w') (hv : (obR o).2 = 0) (hf : o.Fit) : (∃ vl vp, e = .returned (.tuple #[o.val vl vp, .int .i64 0]) ∧ ObO w.heap.size w' vl vp o) ∧ Below w.heap.size w w' := by
  obtain ⟨LS, SP, p1, r1, p2, r2, h3, hb⟩ := h
  have e1 := shf_nob (ts := ts) (cs := cs) hv hf p1 r1 p2 r2
  rw [e1] at h3
  refine ⟨?_, hb⟩
  rcases h3 with ⟨_, _, q⟩ | ⟨_, q, _⟩ | ⟨q, _⟩
  · exact q
  · exact absurd hv q
  · exact absurd (shf_ok hv hf) q
theorem obR_codes (o : Ob) : (obR o).2 = 0 ∨ (obR o).2 = 130 ∨ (obR o).2 = 23 := by
  unfold obR
  split
  · unfold outR
    split
    · simp
    · simp
  · simp
/-- What Normal answers of every object: an object that is valid, that object itself if it was valid; or, of one that was not, the zero object and one of two errors. -/
theorem NoP.any {o : Ob} {w w' : World} {e : Ending} (h : NoP o w e w') (hf : o.Fit) : ((∃ n vl vp, e = .returned (.tuple #[n.val vl vp, .int .i64 0]) ∧ (obR n).2 = 0 ∧ ObO w.heap.size w' vl vp n ∧ ((obR o).2 = 0 ↔ n = o) ∧ ∃ LS SP, n = nob o LS SP ∧ LS.Perm o.ls ∧ SP.Perm o.ps ∧ ∀ p ∈ o.ps, okP p) ∨
    ((obR o).2 ≠ 0 ∧ ∃ c : Int, (c = 130 ∨ c = 23) ∧ e = .returned (.tuple #[.agg zO, .int .i64 c]))) ∧ Below w.heap.size w w' := by
  by_cases hv : (obR o).2 = 0
  · obtain ⟨LS, SP, p1, r1, p2, r2, h3, hb⟩ := h
    have e1 := nob_self hv hf p1 r1 p2 r2
    refine ⟨Or.inl ?_, hb⟩
    rcases h3 with ⟨g, q0, vl, vp, q, q'⟩ | ⟨_, q, _⟩ | ⟨q, _⟩
    · exact ⟨_, vl, vp, q, q0, q', ⟨fun _ => e1, fun _ => hv⟩, LS, SP, rfl, p1, p2, g⟩
    · rw [e1] at q; exact absurd hv q
    · exact absurd (fun p hp => (parts_self hv hf p hp).2) q
  · obtain ⟨LS, SP, p1, r1, p2, r2, h3, hb⟩ := h
    refine ⟨?_, hb⟩
    rcases h3 with ⟨g, q0, vl, vp, q, q'⟩ | ⟨_, q, q'⟩ | ⟨_, q⟩
    · exact Or.inl ⟨_, vl, vp, q, q0, q', ⟨fun z => absurd z hv, fun z => absurd (by rw [← z]; exact q0) hv⟩, LS, SP, rfl, p1, p2, g⟩
    · refine Or.inr ⟨hv, _, ?_, q'⟩
      rcases obR_codes (nob o LS SP) with z | z | z
      · exact absurd z q
      · left; rw [z]; rfl
      · right; rw [z]; rfl
    · exact Or.inr ⟨hv, 130, Or.inl rfl, q⟩
end Nx
end Go.Proofs.YtehgnbgbmicheaaGreatDoor
end S4

section S5
namespace Go.Proofs.YtehgnbgbmicheaaGreatDoor
open Go.RowKit Go.Sort Go.Lib
namespace Nx
/-- Few elements in each list. -/
def Few (ls : List (ByteArray × ByteArray)) (ps : List Pt) : Prop := ls.length ≤ 16 ∧ ps.length ≤ 8 ∧ ∀ p ∈ ps, p.r.length ≤ 32 ∧ p.l.length ≤ 16
/-- Of an amount: a name of moderate size, a number of 64 bits. -/
theorem valid_few {o : Ob} (h : (obR o).2 = 0) : o.ls.length ≤ 16 ∧ o.ps.length ≤ 8 ∧ ∀ p ∈ o.ps, p.r.length ≤ 16 ∧ p.l.length ≤ 16 := by
  obtain ⟨_, q2, _, _, _, _, q7, q8⟩ := obS_parts (stands_of h)
  refine ⟨labels_good q2, q7, fun p hp => ?_⟩
  obtain ⟨_, a1, a2⟩ := pts_good q8 p hp
  exact ⟨(ams_parts a1).1, (ams_parts a2).1⟩
theorem Few.sizes {ls : List (ByteArray × ByteArray)} {ps : List Pt} (h : Few ls ps) : ls.length * 32 ≤ 140737488355328 ∧ ps.length * 64 ≤ 140737488355328 ∧ ∀ p ∈ ps, p.r.length * 24 ≤ 140737488355328 ∧ p.l.length * 24 ≤ 140737488355328 :=
  ⟨by have := h.1; omega, by have := h.2.1; omega, fun p hp => ⟨by have := (h.2.2 p hp).1; omega, by have := (h.2.2 p hp).2; omega⟩⟩
theorem few_of {o : Ob} (h : (obR o).2 = 0) : Few o.ls o.ps :=
  ⟨(valid_few h).1, (valid_few h).2.1, fun p hp => ⟨by have := ((valid_few h).2.2 p hp).1; omega, ((valid_few h).2.2 p hp).2⟩⟩
/-- What holds of the parts, set one by one. -/
theorem set_all {Q : Pt → Prop} {ps : List Pt} (h : ∀ p ∈ ps, Q p) {k : Nat} {q : Pt} (hq : Q q) : ∀ p ∈ ps.set k q, Q p := fun p hp => by
  rcases List.mem_or_eq_of_mem_set hp with z | z
  · exact h p z
  · rw [z]; exact hq
/-- The first i parts are cut, the others as they were. -/
theorem ctN_all {Q R : Pt → Prop} (cs : List Int) {ps : List Pt} (h : ∀ p ∈ ps, Q p) (hc : ∀ p, Q p → R (ctP cs p)) (hr : ∀ p, Q p → R p) : ∀ i, i ≤ ps.length → (∀ p ∈ ctN cs ps i, R p) ∧ ∀ k, i ≤ k → (ctN cs ps i).getD k zP = ps.getD k zP
  | 0, _ => ⟨fun p hp => hr p (h p hp), fun _ _ => rfl⟩
  | i + 1, hi => by
    obtain ⟨a, b⟩ := ctN_all cs h hc hr i (by omega)
    refine ⟨?_, fun k hk => ?_⟩
    · refine set_all a ?_
      rw [b i (Nat.le_refl _)]
      exact hc _ (by rw [getD_ge _ _ _ (show i < ps.length by omega)]; exact h _ (List.getElem_mem _))
    · show ((ctN cs ps i).set i _).getD k zP = _
      rw [List.getD_eq_getElem?_getD, List.getElem?_set_ne (by omega), ← List.getD_eq_getElem?_getD]
      exact b k (by omega)
theorem tkN_all {Q : Pt → Prop} (x y : Nat) {ps : List Pt} (h : ∀ p ∈ ps, Q p) (hc : ∀ p, Q p → Q (tnP x y p)) : ∀ i, i ≤ ps.length → ∀ p ∈ tkN x y ps i, Q p
  | 0, _ => h
  | i + 1, hi => by
    have a := tkN_all x y h hc i (by omega)
    refine set_all a (hc _ ?_)
    have hl : i < (tkN x y ps i).length := by rw [tkN_len]; omega
    rw [getD_ge _ _ _ hl]; exact a _ (List.getElem_mem _)
theorem tu1_all {Q : Pt → Prop} (hc : ∀ x y p, Q p → Q (tnP x y p)) {x y : Int} {s : LP} (h : ∀ p ∈ s.2, Q p) : ∀ p ∈ (tu1 x y s).2, Q p := by
  unfold tu1
  split
  · exact h
  · refine tkN_all _ _ (fun p hp => h p ((tn_perm _ _ _ _).mem_iff.1 hp)) (fun p => hc _ _ p) _ (by rw [tn_len]; exact Nat.le_refl _)
theorem tuN_all {Q : Pt → Prop} (hc : ∀ x y p, Q p → Q (tnP x y p)) {ts : List Int} {s : LP} (h : ∀ p ∈ s.2, Q p) : ∀ j, ∀ p ∈ (tuN ts s j).2, Q p
  | 0 => h
  | j + 1 => tu1_all hc (tuN_all hc h j)
theorem few_turn (x y : Nat) (p : Pt) (h : p.r.length ≤ 32 ∧ p.l.length ≤ 16) : (tnP x y p).r.length ≤ 32 ∧ (tnP x y p).l.length ≤ 16 := by
  unfold tnP
  simp only [tn_len]
  exact h
/-- A valid object's shuffle is small. -/
theorem shf_few {o : Ob} (ts cs : List Int) (h : (obR o).2 = 0) : Few (shf o ts cs).ls (shf o ts cs).ps := by
  obtain ⟨a, b, c⟩ := valid_few h
  have q := tuN_len ts (o.ls, ctN cs o.ps o.ps.length) (ts.length / 2)
  refine ⟨by unfold shf; simp only; rw [q.1]; exact a, by unfold shf; simp only; rw [q.2, ctN_len]; exact b, ?_⟩
  refine tuN_all (Q := fun p => p.r.length ≤ 32 ∧ p.l.length ≤ 16) (fun x y p => few_turn x y p) ?_ _
  refine (ctN_all (Q := fun p => p.r.length ≤ 16 ∧ p.l.length ≤ 16) cs c (fun p hp => ?_) (fun p hp => ⟨by omega, hp.2⟩) _ (Nat.le_refl _)).1
  unfold ctP
  have := ckN_len cs p.r (min p.r.length cs.length)
  have := Nat.min_le_left p.r.length cs.length
  exact ⟨by simp only; omega, hp.2⟩
/-- A valid object's shuffle fits. -/
theorem shf_fit {o : Ob} (ts cs : List Int) (hf : o.Fit) : (shf o ts cs).Fit := by
  refine ⟨hf.s, ?_, ?_, hf.n⟩
  · have q : ∀ j, (tuN ts (o.ls, ctN cs o.ps o.ps.length) j).1.Perm o.ls := by
      intro j
      induction j with
      | zero => exact List.Perm.refl _
      | succ j ih =>
        show (tu1 _ _ (tuN ts (o.ls, ctN cs o.ps o.ps.length) j)).1.Perm o.ls
        unfold tu1
        split
        · exact ih
        · exact (tn_perm _ _ _ _).trans ih
    exact fun x hx => hf.l x ((q _).mem_iff.1 hx)
  · refine tuN_all (Q := fun x => x.n.size ≤ 140737488355328 ∧ (∀ y ∈ x.r, y.fit) ∧ (∀ y ∈ x.l, y.fit)) (fun x y p hp => ?_) ?_ _
    · exact ⟨hp.1, fun z hz => hp.2.1 z ((tn_perm _ _ _ _).mem_iff.1 hz), fun z hz => hp.2.2 z ((tn_perm _ _ _ _).mem_iff.1 hz)⟩
    · refine (ctN_all (Q := fun x => x.n.size ≤ 140737488355328 ∧ (∀ y ∈ x.r, y.fit) ∧ (∀ y ∈ x.l, y.fit)) cs hf.p (fun p hp => ?_) (fun p hp => hp) _ (Nat.le_refl _)).1
      refine ⟨hp.1, ?_, hp.2.2⟩
      refine ckN_all (Q := fun y => y.fit) cs p.r (fun x v hx h0 h1 => ?_) hp.2.1 _ (Nat.min_le_left _ _)
      obtain ⟨a, b, c⟩ := hx
      exact ⟨a, by show (-9223372036854775808 : Int) ≤ v; omega, by show v ≤ (9223372036854775807 : Int); omega⟩
end Nx
end Go.Proofs.YtehgnbgbmicheaaGreatDoor
end S5

section S6
namespace Go.Proofs.YtehgnbgbmicheaaGreatDoor
open Go.RowKit Go.Sort Go.Lib
namespace Nx
section
variable {α : Type} {K : Kd α}
theorem take_mid {β : Type} (c vs : List β) (o N : Nat) (ho : o + vs.length ≤ N) (hN : N ≤ c.length) : (c.take o ++ vs ++ c.drop (o + vs.length)).take N = (c.take N).take o ++ vs ++ (c.take N).drop (o + vs.length) := by
  rw [List.append_assoc, List.take_append, List.take_append, List.length_take, List.take_take, List.take_take, List.drop_take, List.append_assoc]
  rw [show min N o = o by omega, show min o N = o by omega, show min o c.length = o by omega, List.take_of_length_le (l := vs) (by omega), Nat.sub_sub]
theorem own_some {B : Nat} {w : World} {a : Option Addr} {n cap : Nat} {xs : List α} (H : OwnR K B w (.slice a n cap) xs) (h : 0 < n) : ∃ g, a = some ⟨g, 0, none⟩ := by
  obtain ⟨hl, ⟨hv, hn⟩ | ⟨g', cap', cur, hv, hb, hg, hn, hm, hs, ht⟩⟩ := H
  · simp only [Value.slice.injEq] at hv; omega
  · simp only [Value.slice.injEq] at hv
    exact ⟨g', hv.1⟩
theorem own_len {B : Nat} {w : World} {a : Option Addr} {n cap : Nat} {xs : List α} (H : OwnR K B w (.slice a n cap) xs) : n = xs.length := by
  obtain ⟨a', c', h⟩ := H.slice
  simp only [Value.slice.injEq] at h
  exact h.2.1
theorem own_parts {B : Nat} {w : World} {g n cap : Nat} {xs : List α} (H : OwnR K B w (.slice (some ⟨g, 0, none⟩) n cap) xs) : ∃ cur : Array Value, n = xs.length ∧ B ≤ g ∧ w.heap[g]? = some (.cells cur K.t (0, 0)) ∧ n ≤ cap ∧ cap ≤ maxLen ∧ cur.size = cap * K.k ∧ cur.toList.take (n * K.k) = cellsR K xs := by
  obtain ⟨hl, ⟨hv, hn⟩ | ⟨g', cap', cur, hv, hb, hg, hn, hm, hs, ht⟩⟩ := H
  · simp at hv
  · simp only [Value.slice.injEq, Option.some.injEq, Addr.mk.injEq, and_true] at hv
    obtain ⟨rfl, rfl, rfl⟩ := hv
    exact ⟨cur, rfl, hb, hg, hn, hm, hs, ht⟩
theorem own_ofParts (ok : K.Ok) {B : Nat} {w : World} {g cap : Nat} {xs : List α} {cur : Array Value} (hb : B ≤ g) (hg : w.heap[g]? = some (.cells cur K.t (0, 0))) (hn : xs.length ≤ cap) (hm : cap ≤ maxLen) (hs : cur.size = cap * K.k) (ht : cur.toList.take (xs.length * K.k) = cellsR K xs) : OwnR K B w (.slice (some ⟨g, 0, none⟩) xs.length cap) xs :=
  ⟨cellsR_length ok xs, .inr ⟨g, cap, cur, rfl, hb, hg, hn, hm, hs, ht⟩⟩
theorem cellsR_put (ok : K.Ok) (xs : List α) (i : Nat) (hi : i < xs.length) (y : α) : cellsR K (xs.set i y) = (cellsR K xs).take (i * K.k) ++ K.c y ++ (cellsR K xs).drop (i * K.k + K.k) := by
  induction xs generalizing i with
  | nil => simp at hi
  | cons x r ih =>
    cases i with
    | zero =>
      have e : (K.c x).length = K.k := ok.len x
      rw [List.set_cons_zero, cellsR, cellsR, List.flatMap_cons, List.flatMap_cons, Nat.zero_mul, List.take_zero, List.nil_append, Nat.zero_add, ← e, List.drop_left]
    | succ i =>
      have := ih i (by simpa using hi)
      have e : (K.c x).length = K.k := ok.len x
      rw [List.set_cons_succ, cellsR, cellsR, List.flatMap_cons, List.flatMap_cons, Nat.succ_mul]
      rw [cellsR, cellsR] at this
      rw [this, show i * K.k + K.k = (K.c x).length + i * K.k by rw [e]; omega, List.take_length_add_append, show (K.c x).length + i * K.k + K.k = (K.c x).length + (i * K.k + K.k) by omega, List.drop_length_add_append]
      simp only [List.append_assoc]
      rw [show (K.c x).length + i * K.k = i * K.k + K.k by omega]
theorem heap_setCells (t : TypeId) (g : Nat) : ∀ (vs : List Value) (o : Nat) (w : World) (cur : Array Value), w.heap[g]? = some (.cells cur t (0, 0)) → o + vs.length ≤ cur.size →
    ∃ cur' : Array Value, (w.setCells g o vs).heap[g]? = some (.cells cur' t (0, 0)) ∧ cur'.toList = cur.toList.take o ++ vs ++ cur.toList.drop (o + vs.length)
  | [], o, w, cur, h, hl => ⟨cur, h, by simp⟩
  | v :: vs, o, w, cur, h, hl => by
    rw [List.length_cons] at hl
    have h1 : (w.setCell ⟨g, o, none⟩ v).heap[g]? = some (.cells (cur.setIfInBounds o v) t (0, 0)) := heap_setCell_same _ _ _ _ _ _ h
    obtain ⟨cur', q1, q2⟩ := heap_setCells t g vs (o + 1) (w.setCell ⟨g, o, none⟩ v) (cur.setIfInBounds o v) h1 (by simp; omega)
    refine ⟨cur', q1, ?_⟩
    have hol : o < cur.toList.length := by rw [Array.length_toList]; omega
    rw [q2, Array.toList_setIfInBounds, List.length_cons, show o + 1 + vs.length = o + (vs.length + 1) by omega]
    have e1 : (cur.toList.set o v).take (o + 1) = cur.toList.take o ++ [v] := take_set_last _ _ _ hol
    have e2 : (cur.toList.set o v).drop (o + (vs.length + 1)) = cur.toList.drop (o + (vs.length + 1)) := List.drop_set_of_lt (by omega)
    rw [e1, e2]
    simp
theorem grown_setCells (g : Nat) : ∀ (vs : List Value) (o : Nat) (w : World), w.grownBy (w.setCells g o vs) (some g)
  | [], o, w => ⟨rfl, rfl, rfl, Nat.le_refl _, fun _ _ _ => rfl⟩
  | v :: vs, o, w => by
    have h1 : w.grownBy (w.setCell ⟨g, o, none⟩ v) (some g) := by
      have q := kept_set (F := fun k => some k = some g) w ⟨g, o, none⟩ v rfl
      exact ⟨q.os, q.tape, q.output, q.size, q.block⟩
    exact h1.trans (grown_setCells g vs (o + 1) _)
/-- An element turned whole. -/
theorem own_put (ok : K.Ok) {B : Nat} {w : World} {g n cap : Nat} {xs : List α} (H : OwnR K B w (.slice (some ⟨g, 0, none⟩) n cap) xs) (i : Nat) (hi : i < xs.length) (y : α) :
    OwnR K B (w.setCells g (i * K.k) (K.c y)) (.slice (some ⟨g, 0, none⟩) n cap) (xs.set i y) ∧ w.grownBy (w.setCells g (i * K.k) (K.c y)) (some g) ∧ w.there g (i * K.k) (K.c y).length := by
  obtain ⟨cur, rfl, hbg, hg, hnc, hcm, hsz, ht⟩ := own_parts H
  have hmul : (i + 1) * K.k ≤ xs.length * K.k := Nat.mul_le_mul_right _ hi
  have hmul2 : xs.length * K.k ≤ cap * K.k := Nat.mul_le_mul_right _ hnc
  rw [Nat.succ_mul] at hmul
  have hlen := ok.len y
  obtain ⟨cur', q1, q2⟩ := heap_setCells K.t g (K.c y) (i * K.k) w cur hg (by omega)
  have e : (xs.set i y).length = xs.length := by simp
  have z2 : cur.toList.length = cur.size := Array.length_toList
  refine ⟨?_, grown_setCells _ _ _ _, fun j hj => ⟨?_, frozen_of_row _ _ _ _ _ hg⟩⟩
  · rw [← e]
    refine own_ofParts ok hbg q1 (by rw [e]; exact hnc) hcm ?_ ?_
    · have z : cur'.toList.length = cur'.size := Array.length_toList
      rw [q2, List.length_append, List.length_append, List.length_take, List.length_drop] at z
      omega
    · rw [e, q2, cellsR_put ok xs i hi y, ← ht, take_mid _ _ _ _ (by omega) (by omega), hlen]
  · rw [cell_of_row _ _ _ _ _ _ hg, Array.getElem?_eq_getElem (by omega)]; rfl
theorem size_of (ok : K.Ok) (z : α) : (Tryz.prog.info? K.t).map (·.size) = some (K.c z).toArray.size := by
  obtain ⟨zv, hinf, hzc⟩ := ok.inf
  obtain ⟨i0, hi, hz0, hz1, hz2⟩ := info_parts hinf
  rw [hi]
  show some i0.size = _
  rw [hz1, List.size_toArray, ok.len]
theorem store_el (ok : K.Ok) {ops : Array Oper} {rest : List Oper} {o : Oper} {a : Act} {w : World} {Q : Exit → Act → World → Prop} (hgd : o.guard = none) (x y : Operand) (ho : o.op = .store K.t x y)
    {B g m c i j : Nat} {L : List α} (H : OwnR K B w (.slice (some ⟨g, 0, none⟩) m c) L) (hi : i < L.length) (z : α) {cs : Array Value} (hcs : cs = (K.c z).toArray) (hj : j = i * K.k) (hx : a.eval x = .pointer (some ⟨g, j, none⟩)) (hy : a.eval y = .agg cs)
    (h : ∀ W, Hid (OwnR K B W (.slice (some ⟨g, 0, none⟩) m c) (L.set i z) ∧ w.grownBy W (some g)) → wpList Tryz.prog ops Q rest (a.put o.dst undef) W) : wpList Tryz.prog ops Q (o :: rest) a w := by
  subst hj hcs
  obtain ⟨q1, q2, q3⟩ := own_put ok H i hi z
  exact wpList_store_mid hgd K.t x y ho g (i * K.k) (K.c z).toArray hx hy (by simpa using q3) (size_of ok z) (all_oneCell_toArray (ok.one z)) (h _ (Lib.hid ⟨q1, q2⟩))
theorem step_store_el (ok : K.Ok) {ops : Array Oper} {o : Oper} {a : Act} {w : World} {KK : Act → World → Prop} {Q : Exit → Act → World → Prop} {E : Prop} (hgd : o.guard = none) (x y : Operand) (ho : o.op = .store K.t x y)
    {B g m c i j : Nat} {L : List α} (H : OwnR K B w (.slice (some ⟨g, 0, none⟩) m c) L) (hi : i < L.length) (z : α) {cs : Array Value} (hcs : cs = (K.c z).toArray) (hj : j = i * K.k) (hx : a.eval x = .pointer (some ⟨g, j, none⟩)) (hy : a.eval y = .agg cs)
    (h : ∀ W, Hid (OwnR K B W (.slice (some ⟨g, 0, none⟩) m c) (L.set i z) ∧ w.grownBy W (some g)) → KK (a.put o.dst undef) W) : if Region.wanted o (yielded ops a.tmps) = true then Oper.wp Tryz.prog o a w KK Q else E := by
  subst hj hcs
  rw [if_pos (by simp [Region.wanted, hgd])]
  obtain ⟨q1, q2, q3⟩ := own_put ok H i hi z
  exact wp_store_mid K.t x y ho g (i * K.k) (K.c z).toArray hx hy (by simpa using q3) (size_of ok z) (all_oneCell_toArray (ok.one z)) (h _ (Lib.hid ⟨q1, q2⟩))
/-- An append as a step of a drawn region: where the new row lies. -/
theorem step_rowA (ok : K.Ok) {ops : Array Oper} {o : Oper} {a : Act} {KK : Act → World → Prop} {Q : Exit → Act → World → Prop} {E : Prop} (hgd : o.guard = none) (s y : Operand)
    (ho : o.op = .call { callee := .builtin .append, args := #[s, y], argTypes := #[K.s, K.s] })
    {B : Nat} {w0 : World} {v : Value} {es : List α} (hs : a.eval s = v) (hown : OwnR K B w0 v es) (hB : B ≤ w0.heap.size) (p : α) {cs : Array Value} (hcs : cs = (K.c p).toArray)
    (hx : a.eval y = .slice (some ⟨w0.heap.size, 0, none⟩) 1 1) (hl : (es.length + 1) * K.b ≤ 140737488355328)
    (h : ∀ a' n' c' w', Hid (OwnR K B w' (.slice a' n' c') (es ++ [p]) ∧ w0.grownBy w' v.ownBlock ∧ n' = es.length + 1 ∧ ((Value.slice a' n' c').ownBlock = v.ownBlock ∨ ∃ b, w0.heap.size ≤ b ∧ (Value.slice a' n' c').ownBlock = some b)) → KK (a.put o.dst (.slice a' n' c')) w') :
    if Region.wanted o (yielded ops a.tmps) = true then Oper.wp Tryz.prog o a (w0.alloc (.cells cs K.t)) KK Q else E := by
  subst hcs
  rw [if_pos (by simp [Region.wanted, hgd])]
  obtain ⟨zv, hinf, hzc⟩ := ok.inf
  obtain ⟨i0, hi, hz0, hz1, hz2⟩ := info_parts hinf
  have hb := ok.by0
  obtain ⟨v', w', hr, h2, h3, _, h5⟩ := run_append_own_at (P := Tryz.prog) (w0.alloc (.cells (K.c p).toArray K.t)) B K.s o.type K.t i0 zv K.k K.b ok.und hi hz0 hz1 hz2 hzc ok.pos v es.length (cellsR K es) (World.ownsRow.alloc hown _) ⟨w0.heap.size, 0, none⟩ 1 1 (K.c p) (by rw [ok.len, Nat.one_mul]) (by
    intro j u hj
    rw [add_plain, Nat.zero_add, World.cell?_alloc_new, ← Array.getElem?_toList]; exact hj) (ok.one p) (by have := Nat.le_mul_of_pos_right (es.length + 1) hb.1; unfold maxLen; omega) hl (by simp; omega)
  unfold Oper.wp execOp
  simp only [ho, resolve, invoke, builtin, Sem.run_bind, Sem.run_pure, Result.andThen_ok, List.map_toArray, List.map_cons, List.map_nil, hs, hx, hr]
  have o2 : OwnR K B w' v' (es ++ [p]) := by
    show w'.ownsRow _ _ _ _ _ _
    rw [cellsR_app, List.length_append, cellsR_single]; exact h2
  obtain ⟨a7, c7, e7⟩ := o2.slice
  subst e7
  refine h a7 _ c7 w' (Lib.hid ⟨o2, grown_alloc h3, by simp, ?_⟩)
  rcases h5 with q | q
  · exact Or.inl q
  · exact Or.inr ⟨_, by simp, q⟩
end
/-- The requests of one part lie in a new row. -/
theorem nst_new {B : Nat} {W W' : World} {rs : List Pr} {ps : List Pt} (h : Nst B W rs ps) (ha : Ap rs) {k : Nat} (hk : k < ps.length) (hw : Kept (fun y => some y = (rs.getD k kPt.z).r.v.ownBlock) W W') {s : Sl} {l : List Am} (ho : OwnR kAm B W' s.v l) :
    Nst B W' (rs.set k ⟨(rs.getD k kPt.z).n, s, (rs.getD k kPt.z).l⟩) (ps.set k ⟨(ps.getD k zP).n, l, (ps.getD k zP).l⟩) := by
  refine ⟨by rw [List.length_set, List.length_set]; exact h.1, fun j hj => ?_⟩
  rw [List.length_set] at hj
  have hl := h.1
  by_cases e : j = k
  · subst e
    have q := h.2 j hj
    rw [List.getD_eq_getElem?_getD (l := ps.set j _), List.getElem?_set_self hj, List.getD_eq_getElem?_getD (l := rs.set j _), List.getElem?_set_self (by omega)]
    exact ⟨q.1, ho, q.2.2.kept hw (fun x hx e => ap_one ha (by omega) e.symm hx rfl)⟩
  · have q := h.2 j hj
    rw [List.getD_eq_getElem?_getD (l := ps.set k _), List.getElem?_set_ne (fun e2 => e e2.symm), ← List.getD_eq_getElem?_getD, List.getD_eq_getElem?_getD (l := rs.set k _), List.getElem?_set_ne (fun e2 => e e2.symm), ← List.getD_eq_getElem?_getD]
    exact ⟨q.1, q.2.1.kept hw (fun x hx e2 => ap_ne ha (by omega) (by omega) e (mem_r hx) (mem_r e2.symm) rfl), q.2.2.kept hw (fun x hx e2 => ap_ne ha (by omega) (by omega) e (mem_l hx) (mem_r e2.symm) rfl)⟩
theorem ap_new {rs : List Pr} (ha : Ap rs) {k : Nat} (hk : k < rs.length) {s : Sl} (hb : s.v.ownBlock = (rs.getD k kPt.z).r.v.ownBlock ∨ ∃ b, s.v.ownBlock = some b ∧ ∀ x ∈ rs, b ∉ blk x) : Ap (rs.set k ⟨(rs.getD k kPt.z).n, s, (rs.getD k kPt.z).l⟩) := by
  obtain ⟨r, hr⟩ : ∃ r, r = rs.getD k kPt.z := ⟨_, rfl⟩
  rw [← hr] at hb ⊢
  have e1 : rs = rs.take k ++ (r :: rs.drop (k + 1)) := by
    rw [hr, getD_ge _ _ _ hk, List.getElem_cons_drop, List.take_append_drop]
  have e2 : rs.set k ⟨r.n, s, r.l⟩ = rs.take k ++ ((⟨r.n, s, r.l⟩ : Pr) :: rs.drop (k + 1)) := by
    rw [List.set_eq_take_append_cons_drop, if_pos hk]
  unfold Ap at ha ⊢
  rw [e2]
  rw [e1] at ha
  rw [List.flatMap_append, List.flatMap_cons] at ha ⊢
  rcases hb with q | ⟨b, q, hn⟩
  · have : blk ⟨r.n, s, r.l⟩ = blk r := by unfold blk; rw [q]
    rw [this]; exact ha
  · have e3 : blk ⟨r.n, s, r.l⟩ = b :: r.l.v.ownBlock.toList := by unfold blk; rw [q]; rfl
    rw [e3]
    rw [show blk r = r.r.v.ownBlock.toList ++ r.l.v.ownBlock.toList from rfl] at ha
    refine (List.Perm.nodup_iff (l₂ := b :: ((rs.take k).flatMap blk ++ (r.l.v.ownBlock.toList ++ (rs.drop (k + 1)).flatMap blk))) List.perm_middle).2 ?_
    rw [List.nodup_cons]
    refine ⟨fun hm => ?_, ha.sublist ?_⟩
    · rcases List.mem_append.1 hm with z | z
      · obtain ⟨x, hx, hbx⟩ := List.mem_flatMap.1 z
        exact hn x (List.mem_of_mem_take hx) hbx
      · rcases List.mem_append.1 z with z | z
        · refine hn r (by rw [hr]; exact getD_in hk) ?_
          unfold blk; exact List.mem_append.2 (Or.inr z)
        · obtain ⟨x, hx, hbx⟩ := List.mem_flatMap.1 z
          exact hn x (List.mem_of_mem_drop hx) hbx
    · refine List.Sublist.append (List.Sublist.refl _) ?_
      rw [List.append_assoc]
      exact List.sublist_append_right _ _
/-- The object that is being turned about: r0 the parts that lie in its list, rs those that will. -/
structure SH (w : World) (bz bo : Nat) (x : Ob) (vl vp : Value) (ls : List (ByteArray × ByteArray)) (r0 rs : List Pr) (ps : List Pt) (W : World) : Prop where
  z : W.heap[bz]? = some (.cells #[.string ⟨#[]⟩, .string ⟨#[]⟩, .slice none 0 0, .int .i64 0, .int .i64 0, .slice none 0 0, .int .i64 0] 25 (0, 0))
  o : W.heap[bo]? = some (.cells #[.string x.p, .string x.n, vl, .int .i64 x.pr, .int .i64 x.dl, vp, .int .i64 x.ver] 25 (0, 0))
  l : OwnR kLb w.heap.size W vl ls
  p : OwnR kPt w.heap.size W vp r0
  q : Nst w.heap.size W rs ps
  be : Below w.heap.size w W
  bs : w.heap.size ≤ bz ∧ w.heap.size ≤ bo ∧ bz ≠ bo
  ap : Ap rs
section
variable {w W W' : World} {bz bo : Nat} {x : Ob} {vl vp : Value} {ls : List (ByteArray × ByteArray)} {r0 rs : List Pr} {ps : List Pt}
theorem SH.below (h : SH w bz bo x vl vp ls r0 rs ps W) (hb : Below W.heap.size W W') : SH w bz bo x vl vp ls r0 rs ps W' :=
  ⟨by rw [hb.block _ (lt_of_some h.z)]; exact h.z, by rw [hb.block _ (lt_of_some h.o)]; exact h.o, h.l.below hb, h.p.below hb, ⟨h.q.1, fun k hk => ⟨(h.q.2 k hk).1, (h.q.2 k hk).2.1.below hb, (h.q.2 k hk).2.2.below hb⟩⟩, h.be.trans (hb.mono h.be.size), h.bs, h.ap⟩
theorem SH.drew (h : SH w bz bo x vl vp ls r0 rs ps W) : SH w bz bo x vl vp ls r0 rs ps W.drew := h.below ⟨rfl, rfl, rfl, Nat.le_refl _, fun _ _ => rfl⟩
theorem SH.alloc (h : SH w bz bo x vl vp ls r0 rs ps W) (ob : Obj) : SH w bz bo x vl vp ls r0 rs ps (W.alloc ob) := h.below ((Below.refl _ W).alloc (Nat.le_refl _) _)
theorem SH.rows (h : SH w bz bo x vl vp ls r0 rs ps W) {F : Nat → Prop} (hk : Kept F W W') (hF : ∀ k cs m, F k → W.heap[k]? ≠ some (.cells cs 25 m)) : W'.heap[bz]? = some (.cells #[.string ⟨#[]⟩, .string ⟨#[]⟩, .slice none 0 0, .int .i64 0, .int .i64 0, .slice none 0 0, .int .i64 0] 25 (0, 0)) ∧ W'.heap[bo]? = some (.cells #[.string x.p, .string x.n, vl, .int .i64 x.pr, .int .i64 x.dl, vp, .int .i64 x.ver] 25 (0, 0)) :=
  ⟨by rw [hk.block _ (lt_of_some h.z) (fun e => hF _ _ _ e h.z)]; exact h.z, by rw [hk.block _ (lt_of_some h.o) (fun e => hF _ _ _ e h.o)]; exact h.o⟩
/-- One list of amounts is turned: all else stays. -/
theorem SH.amts (h : SH w bz bo x vl vp ls r0 rs ps W) {v : Value} {l0 : List Am} (hv : OwnR kAm w.heap.size W v l0) (hw : W.grownBy W' v.ownBlock) {rs' : List Pr} {ps' : List Pt} (hq : Nst w.heap.size W' rs' ps') (ha : Ap rs') : SH w bz bo x vl vp ls r0 rs' ps' W' := by
  have hk := grown_kept hw
  obtain ⟨gz, go⟩ := h.rows hk (own_tb hv _ (by decide))
  exact ⟨gz, go, h.l.kept_ty hk (own_tb hv _ (by decide)), h.p.kept_ty hk (own_tb hv _ (by decide)), hq, h.be.trans (grown_belowR hw hv h.be.size), h.bs, ha⟩
theorem SH.turnR (h : SH w bz bo x vl vp ls r0 rs ps W) {k g : Nat} (hk : k < ps.length) (hg : (rs.getD k kPt.z).r.v.ownBlock = some g) (hw : W.grownBy W' (some g)) {l : List Am} (ho : OwnR kAm w.heap.size W' (rs.getD k kPt.z).r.v l) :
    SH w bz bo x vl vp ls r0 rs (ps.set k ⟨(ps.getD k zP).n, l, (ps.getD k zP).l⟩) W' :=
  h.amts (h.q.2 k hk).2.1 (by rw [hg]; exact hw) (nst_setR h.q h.ap hk hg ((grown_kept hw).mono fun x _ e => by injection e) ho) h.ap
theorem SH.turnL (h : SH w bz bo x vl vp ls r0 rs ps W) {k g : Nat} (hk : k < ps.length) (hg : (rs.getD k kPt.z).l.v.ownBlock = some g) (hw : W.grownBy W' (some g)) {l : List Am} (ho : OwnR kAm w.heap.size W' (rs.getD k kPt.z).l.v l) :
    SH w bz bo x vl vp ls r0 rs (ps.set k ⟨(ps.getD k zP).n, (ps.getD k zP).r, l⟩) W' :=
  h.amts (h.q.2 k hk).2.2 (by rw [hg]; exact hw) (nst_setL h.q h.ap hk hg ((grown_kept hw).mono fun x _ e => by injection e) ho) h.ap
theorem SH.appR (h : SH w bz bo x vl vp ls r0 rs ps W) {k : Nat} (hk : k < ps.length) {s : Sl} {l : List Am} (ho : OwnR kAm w.heap.size W' s.v l) (hw : W.grownBy W' (rs.getD k kPt.z).r.v.ownBlock) (hb : s.v.ownBlock = (rs.getD k kPt.z).r.v.ownBlock ∨ ∃ b, W.heap.size ≤ b ∧ s.v.ownBlock = some b) :
    SH w bz bo x vl vp ls r0 (rs.set k ⟨(rs.getD k kPt.z).n, s, (rs.getD k kPt.z).l⟩) (ps.set k ⟨(ps.getD k zP).n, l, (ps.getD k zP).l⟩) W' := by
  refine h.amts (h.q.2 k hk).2.1 hw (nst_new h.q h.ap hk (grown_kept hw) ho) (ap_new h.ap (by rw [h.q.1]; exact hk) ?_)
  rcases hb with q | ⟨b, q1, q2⟩
  · exact Or.inl q
  · refine Or.inr ⟨b, q2, fun y hy hm => ?_⟩
    have := nst_lt h.q y hy
    rcases List.mem_append.1 hm with z | z
    · have := this.1 b (by simpa using z); omega
    · have := this.2 b (by simpa using z); omega
theorem get_set {β : Type} (l : List β) (k : Nat) (a z : β) (h : k < l.length) : (l.set k a).getD k z = a := by rw [List.getD_eq_getElem?_getD, List.getElem?_set_self h]; rfl
theorem SH.atS {k : Nat} {n m : ByteArray} {s b : Sl} {l0 l1 : List Am} (h : SH w bz bo x vl vp ls r0 (rs.set k ⟨n, s, b⟩) (ps.set k ⟨m, l0, l1⟩) W) (hk : k < ps.length) : OwnR kAm w.heap.size W s.v l0 := by
  have hl := h.q.1
  rw [List.length_set, List.length_set] at hl
  have q := h.q.2 k (by rw [List.length_set]; exact hk)
  rw [get_set _ _ _ _ (by omega), get_set _ _ _ _ hk] at q
  exact q.2.1
theorem SH.appS {k : Nat} {n m : ByteArray} {s b s' : Sl} {l0 l1 l : List Am} (h : SH w bz bo x vl vp ls r0 (rs.set k ⟨n, s, b⟩) (ps.set k ⟨m, l0, l1⟩) W) (hk : k < ps.length) (ho : OwnR kAm w.heap.size W' s'.v l) (hw : W.grownBy W' s.v.ownBlock) (hb : s'.v.ownBlock = s.v.ownBlock ∨ ∃ b, W.heap.size ≤ b ∧ s'.v.ownBlock = some b) :
    SH w bz bo x vl vp ls r0 (rs.set k ⟨n, s', b⟩) (ps.set k ⟨m, l, l1⟩) W' := by
  have hl := h.q.1
  rw [List.length_set, List.length_set] at hl
  have e1 := get_set rs k (⟨n, s, b⟩ : Pr) kPt.z (by omega)
  have e2 := get_set ps k (⟨m, l0, l1⟩ : Pt) zP hk
  have q := h.appR (k := k) (s := s') (l := l) (by rw [List.length_set]; exact hk) ho (by rw [e1]; exact hw) (by rw [e1]; exact hb)
  rw [e1, e2, List.set_set, List.set_set] at q
  exact q
theorem SH.turnS {k g : Nat} {n m : ByteArray} {s b : Sl} {l0 l1 l : List Am} (h : SH w bz bo x vl vp ls r0 (rs.set k ⟨n, s, b⟩) (ps.set k ⟨m, l0, l1⟩) W) (hk : k < ps.length) (hg : s.v.ownBlock = some g) (hw : W.grownBy W' (some g)) (ho : OwnR kAm w.heap.size W' s.v l) :
    SH w bz bo x vl vp ls r0 (rs.set k ⟨n, s, b⟩) (ps.set k ⟨m, l, l1⟩) W' := by
  have hl := h.q.1
  rw [List.length_set, List.length_set] at hl
  have e1 := get_set rs k (⟨n, s, b⟩ : Pr) kPt.z (by omega)
  have e2 := get_set ps k (⟨m, l0, l1⟩ : Pt) zP hk
  have q := h.turnR (k := k) (g := g) (l := l) (by rw [List.length_set]; exact hk) (by rw [e1]; exact hg) hw (by rw [e1]; exact ho)
  rw [e2, List.set_set] at q
  exact q
theorem SH.drewN (h : SH w bz bo x vl vp ls r0 rs ps W) (n : Nat) : SH w bz bo x vl vp ls r0 rs ps (W.drewN n) := h.below ⟨rfl, rfl, rfl, Nat.le_refl _, fun _ _ => rfl⟩
theorem grown_drew {W W' : World} {r : Option Nat} (h : W.grownBy W' r) : W.grownBy W'.drew r := ⟨h.os, h.tape, h.output, h.size, h.block⟩
theorem grown_set1 (W : World) (g j : Nat) (u : Value) : W.grownBy (W.setCell ⟨g, j, none⟩ u) (some g) := by
  have q := kept_set (F := fun k => some k = some g) W ⟨g, j, none⟩ u rfl
  exact ⟨q.os, q.tape, q.output, q.size, q.block⟩
theorem SH.labels (h : SH w bz bo x vl vp ls r0 rs ps W) {l1 : List (ByteArray × ByteArray)} (ho : OwnR kLb w.heap.size W' vl l1) (hw : W.grownBy W' vl.ownBlock) : SH w bz bo x vl vp l1 r0 rs ps W' := by
  have hk := grown_kept hw
  obtain ⟨gz, go⟩ := h.rows hk (own_tb h.l _ (by decide))
  exact ⟨gz, go, ho, h.p.kept_ty hk (own_tb h.l _ (by decide)), h.q.kept hk (own_tb h.l _ (by decide)), h.be.trans (grown_belowR hw h.l h.be.size), h.bs, h.ap⟩
theorem SH.parts (h : SH w bz bo x vl vp ls r0 rs ps W) {r1 : List Pr} (ho : OwnR kPt w.heap.size W' vp r1) (hw : W.grownBy W' vp.ownBlock) : SH w bz bo x vl vp ls r1 rs ps W' := by
  have hk := grown_kept hw
  obtain ⟨gz, go⟩ := h.rows hk (own_tb h.p _ (by decide))
  exact ⟨gz, go, h.l.kept_ty hk (own_tb h.p _ (by decide)), ho, h.q.kept hk (own_tb h.p _ (by decide)), h.be.trans (grown_belowR hw h.p h.be.size), h.bs, h.ap⟩
theorem SH.swap {a b : Nat} (h : SH w bz bo x vl vp ls (swl kPt.z rs a b) rs ps W) (ha : a < ps.length) (hb : b < ps.length) : SH w bz bo x vl vp ls (swl kPt.z rs a b) (swl kPt.z rs a b) (swl zP ps a b) W :=
  ⟨h.z, h.o, h.l, h.p, nst_swap h.q ha hb, h.be, h.bs, by
    have hl := h.q.1
    exact (List.Perm.nodup_iff (List.Perm.flatMap_right blk (swl_perm kPt.z rs a b (by omega) (by omega)))).2 h.ap⟩
/-- A box of its own is turned. -/
theorem SH.other (h : SH w bz bo x vl vp ls r0 rs ps W) {b : Nat} {c : Array Value} {m : Nat × Nat} (hk : Kept (fun y => y = b) W W') (ht : W.heap[b]? = some (.cells c kPt.t m)) (hne : vp.ownBlock ≠ some b) (hb : w.heap.size ≤ b) : SH w bz bo x vl vp ls r0 rs ps W' := by
  have tb : ∀ t, t ≠ kPt.t → ∀ k cs m, k = b → W.heap[k]? ≠ some (.cells cs t m) := fun t hn k cs m e q => by
    subst e
    rw [ht] at q
    injection q with q
    injection q with q1 q2
    exact hn q2.symm
  obtain ⟨gz, go⟩ := h.rows hk (tb _ (by decide))
  exact ⟨gz, go, h.l.kept_ty hk (tb _ (by decide)), h.p.kept hk (fun k e f => hne (by rw [e, f])), h.q.kept hk (tb _ (by decide)), h.be.trans (hk.below h.be.size (fun y e => by rw [e]; exact hb)), h.bs, h.ap⟩
theorem SH.done (h : SH w bz bo x vl vp ls rs rs ps W) (cs : Array Value) : (∃ r, OwnR kLb w.heap.size (W.setRow bz cs) vl ls ∧ OwnR kPt w.heap.size (W.setRow bz cs) vp r ∧ Nst w.heap.size (W.setRow bz cs) r ps) ∧ Below w.heap.size w (W.setRow bz cs) := by
  have hk := kept_setRow W bz cs
  have hb := h.bs
  exact ⟨⟨rs, h.l.kept_ty hk (row_tb h.z _ (by decide)), h.p.kept_ty hk (row_tb h.z _ (by decide)), h.q.kept hk (row_tb h.z _ (by decide))⟩, h.be.trans (hk.below h.be.size (fun x hx => by omega))⟩
end
end Nx
end Go.Proofs.YtehgnbgbmicheaaGreatDoor
end S6
