/-
  LeAp, LeAq, joined.
-/
import Derived.Test.YtodfmnbfbndkhaaGreatDoorLeWo
import Derived.Test.YtodfmnbfbndkhaaGreatDoorLeZm
import Derived.Test.YtodfmnbfbndkhaaGreatDoorScE
section S0
namespace Go.Proofs.YtodfmnbfbndkhaaGreatDoor
open Go.RowKit Go.Sort
namespace Le
def tZz : ByteArray := ⟨#[47, 122, 122]⟩
theorem nz_zz : NZ tZz := ⟨by decide, by decide⟩
/-- A row as the law leaves it. -/
def wrU (x : Ur) : Ur := ⟨⟨⟨tZz, x.1.x.k, x.1.x.a, x.1.x.r⟩, -1⟩, nz_zz⟩
def vlU (x : Ur) : Ur := ⟨⟨x.1.x, -1⟩, x.2⟩
def xU : Ur := ⟨⟨⟨⟨#[120]⟩, 0, 0, ⟨#[]⟩⟩, 0⟩, ⟨by decide, by decide⟩⟩
theorem own_setU {B : Nat} {w : World} {g n cap : Nat} {xs : List Ur} (H : OwnR kUse B w (.slice (some ⟨g, 0, none⟩) n cap) xs) (i : Nat) (hi : i < xs.length) :
    OwnR kUse B ((w.setCell ⟨g, i * 5 + 4, none⟩ (.int .i64 (-1))).setCell ⟨g, i * 5, none⟩ (.string ⟨#[47, 122, 122]⟩)) (.slice (some ⟨g, 0, none⟩) n cap) (xs.set i (wrU (xs.getD i kUse.z))) := by
  have h0 := H.set okUse i 4 hi (by decide) (vlU (xs.getD i kUse.z)) (.int .i64 (-1)) rfl
  have gs : (xs.set i (vlU (xs.getD i kUse.z))).getD i kUse.z = vlU (xs.getD i kUse.z) := by rw [List.getD_eq_getElem?_getD, List.getElem?_set_self hi]; rfl
  have h1 := h0.set okUse i 0 (by rw [List.length_set]; exact hi) (by decide) (wrU (xs.getD i kUse.z)) (.string ⟨#[47, 122, 122]⟩) (by rw [gs]; rfl)
  rw [List.set_set] at h1
  exact h1
/-- The first i are written. -/
def wl (xs : List Ur) (i : Nat) : List Ur := (xs.take i).map wrU ++ xs.drop i
theorem wl_len (xs : List Ur) (i : Nat) : (wl xs i).length = xs.length := by
  unfold wl
  rw [List.length_append, List.length_map, List.length_take, List.length_drop]
  omega
theorem wl_at {xs : List Ur} {i : Nat} (h : i < xs.length) : (wl xs i).getD i kUse.z = xs[i] := by
  unfold wl
  have e : ((xs.take i).map wrU).length = i := by rw [List.length_map, List.length_take]; omega
  rw [List.getD_eq_getElem?_getD, List.getElem?_append_right (by omega), e, Nat.sub_self, List.getElem?_drop, Nat.add_zero, List.getElem?_eq_getElem h]
  rfl
theorem wl_set {xs : List Ur} {i : Nat} (h : i < xs.length) : (wl xs i).set i (wrU ((wl xs i).getD i kUse.z)) = wl xs (i + 1) := by
  rw [wl_at h]
  unfold wl
  have e : ((xs.take i).map wrU).length = i := by rw [List.length_map, List.length_take]; omega
  rw [List.set_append_right _ _ (by omega), e, Nat.sub_self, List.drop_eq_getElem_cons h, List.set_cons_zero, List.take_add_one, List.getElem?_eq_getElem h, List.map_append]
  simp
theorem wl_all (xs : List Ur) : wl xs xs.length = xs.map wrU := by
  unfold wl
  rw [List.drop_length, List.append_nil, List.take_length]
theorem wl_zero (xs : List Ur) : wl xs 0 = xs := rfl
/-- A row of amounts of the law's own, whatever it holds: n amounts in a block of theirs. -/
def ShA (B : Nat) (w : World) (s : Sl) : Prop := s.n = 0 ∨ ∃ g cs, s.a = some ⟨g, 0, none⟩ ∧ B ≤ g ∧ w.heap[g]? = some (.cells cs 37 (0, 0)) ∧ s.n * 2 ≤ cs.size
theorem ShA.of {B : Nat} {w : World} {s : Sl} {l : List Am} (H : OwnR kAm B w s.v l) : ShA B w s := by
  obtain ⟨_, ⟨hv, hn⟩ | ⟨g, cap, cur, hv, hB, hg, hn, hm, hs, _⟩⟩ := H
  · simp only [Sl.v, Value.slice.injEq] at hv
    exact Or.inl hv.2.1
  · simp only [Sl.v, Value.slice.injEq] at hv
    refine Or.inr ⟨g, cur, hv.1, hB, hg, ?_⟩
    rw [hv.2.1, hs]
    exact Nat.mul_le_mul_right 2 hn
theorem ShA.kq {B : Nat} {w W : World} {s : Sl} (H : ShA B w s) (h : Kq w W) : ShA B W s := by
  rcases H with e | ⟨g, cs, e, hB, hg, hn⟩
  · exact Or.inl e
  · exact Or.inr ⟨g, cs, e, hB, h.bk _ _ _ _ hg, hn⟩
/-- A store into an amount leaves every row of amounts what it is. -/
theorem ShA.store {B g j : Nat} {w : World} {s : Sl} {u : Value} (H : ShA B w s) : ShA B (w.setCell ⟨g, j, none⟩ u) s := by
  rcases H with e | ⟨g', cs, e, hB, hg, hn⟩
  · exact Or.inl e
  · by_cases q : g' = g
    · subst q
      exact Or.inr ⟨g', cs.setIfInBounds j u, e, hB, heap_setCell_same _ _ _ _ _ _ hg, by rw [Array.size_setIfInBounds]; exact hn⟩
    · exact Or.inr ⟨g', cs, e, hB, by rw [Below.heap_setCell _ _ _ _ q]; exact hg, hn⟩
theorem ShA.cell {B : Nat} {w : World} {s : Sl} (H : ShA B w s) {i : Nat} (hi : i < s.n) : ∃ g, s.a = some ⟨g, 0, none⟩ ∧ B ≤ g ∧ (∃ u, w.cell? ⟨g, i * 2, none⟩ = some u) ∧ (∃ u, w.cell? ⟨g, i * 2 + 1, none⟩ = some u) ∧ (∀ j, w.frozen? ⟨g, j, none⟩ = false) := by
  rcases H with e | ⟨g, cs, e, hB, hg, hn⟩
  · omega
  · refine ⟨g, e, hB, ?_, ?_, fun j => frozen_row hg j⟩
    · exact ⟨cs[i * 2]'(by omega), by rw [cell_of_row _ _ _ _ _ _ hg]; simp [show i * 2 < cs.size by omega]⟩
    · exact ⟨cs[i * 2 + 1]'(by omega), by rw [cell_of_row _ _ _ _ _ _ hg]; simp [show i * 2 + 1 < cs.size by omega]⟩
end Le
end Go.Proofs.YtodfmnbfbndkhaaGreatDoor
end S0

section S1
namespace Go.Proofs.YtodfmnbfbndkhaaGreatDoor
open Go.RowKit Go.Sort
namespace Le
variable {w w0 W : World} {g j : Nat} {u : Value} {cs : Array Value} {ty : TypeId} {m : Nat × Nat}
theorem row_write {y : Nat} {cs' : Array Value} {ty' : TypeId} {m' : Nat × Nat} (h : w.heap[y]? = some (.cells cs' ty' m')) (hg : w.heap[g]? = some (.cells cs ty m)) (ne : ty ≠ ty') : (w.setCell ⟨g, j, none⟩ u).heap[y]? = some (.cells cs' ty' m') := by
  refine (Below.heap_setCell _ _ _ _ (fun e => ?_)).trans h
  simp only at e
  rw [e, hg] at h
  simp only [Option.some.injEq, Obj.cells.injEq] at h
  exact ne h.2.1
theorem own_write {α : Type} {K : Kd α} {B : Nat} {v : Value} {l : List α} (H : OwnR K B w v l) (hg : w.heap[g]? = some (.cells cs ty m)) (ne : ty ≠ K.t) : OwnR K B (w.setCell ⟨g, j, none⟩ u) v l :=
  H.grownO (set_grown w g j u) (fun k e q => by
    obtain ⟨cs', m', h⟩ := H.ty k e
    rw [Option.some.inj q, hg] at h
    simp only [Option.some.injEq, Obj.cells.injEq] at h
    exact ne h.2.1)
theorem ShA.write {B : Nat} {s : Sl} (H : ShA B w s) (hg : w.heap[g]? = some (.cells cs ty m)) (ne : ty ≠ 37) : ShA B (w.setCell ⟨g, j, none⟩ u) s := by
  rcases H with e | ⟨g', cs', e, hB, hg', hn⟩
  · exact Or.inl e
  · exact Or.inr ⟨g', cs', e, hB, row_write hg' hg ne, hn⟩
theorem Lv.write {t b n : Nat} {D : DataW Unit} {f : Ky → Int} (h : Lv w0 w t b n D f) (hg : w.heap[g]? = some (.cells cs ty m)) (ne : ty ≠ 77) (hb : w0.heap.size ≤ g) (G : Gl w0) : Lv w0 (w.setCell ⟨g, j, none⟩ u) t b n D f := by
  refine h.far (set_grown w g j u) hb (fun e => ?_) (fun e => ?_) G
  · have q := h.ld.t
    rw [e, hg] at q
    simp only [Option.some.injEq, Obj.cells.injEq] at q
    exact ne q.2.1
  · obtain ⟨es, c, q, _⟩ := h.ld.m
    rw [e, hg] at q
    simp at q
/-- A part whose limits are gone. -/
def cutP (x : Pr) : Pr := ⟨x.n, x.r, ⟨none, 0, 0⟩⟩
/-- The first i parts are cut. -/
def pl (rs : List Pr) (i : Nat) : List Pr := (rs.take i).map cutP ++ rs.drop i
theorem pl_len (rs : List Pr) (i : Nat) : (pl rs i).length = rs.length := by
  unfold pl
  rw [List.length_append, List.length_map, List.length_take, List.length_drop]
  omega
theorem pl_at {rs : List Pr} {i : Nat} (h : i < rs.length) : (pl rs i).getD i kPt.z = rs[i] := by
  unfold pl
  have e : ((rs.take i).map cutP).length = i := by rw [List.length_map, List.length_take]; omega
  rw [List.getD_eq_getElem?_getD, List.getElem?_append_right (by omega), e, Nat.sub_self, List.getElem?_drop, Nat.add_zero, List.getElem?_eq_getElem h]
  rfl
theorem pl_set {rs : List Pr} {i : Nat} (h : i < rs.length) : (pl rs i).set i (cutP rs[i]) = pl rs (i + 1) := by
  unfold pl
  have e : ((rs.take i).map cutP).length = i := by rw [List.length_map, List.length_take]; omega
  rw [List.set_append_right _ _ (by omega), e, Nat.sub_self, List.drop_eq_getElem_cons h, List.set_cons_zero, List.take_add_one, List.getElem?_eq_getElem h, List.map_append]
  simp
/-- All that the law holds: the ledger, its object's box at gp, the parts and their requests, two answers. -/
structure Ap (w0 : World) (t b n gp B BA BB : Nat) (D : DataW Unit) (f : Ky → Int) (oc : Array Value) (pv : Value) (rs : List Pr) (i : Nat) (va vb : Value) (la lb : List Ur) (W : World) : Prop where
  lv : Lv w0 W t b n D f
  bx : W.heap[gp]? = some (.cells oc 25 (0, 0))
  pt : OwnR kPt B W pv (pl rs i)
  sh : ∀ x ∈ rs, ShA B W x.r
  ra : OwnR kUse BA W va la
  rb : OwnR kUse BB W vb lb
  ap : ∀ k, va.ownBlock = some k → k < BB
  b0 : w0.heap.size ≤ B ∧ w0.heap.size ≤ BA ∧ w0.heap.size ≤ BB
  gl : Gl w0
variable {t b n gp B BA BB : Nat} {D : DataW Unit} {f : Ky → Int} {oc : Array Value} {pv va vb : Value} {rs : List Pr} {i : Nat} {la lb : List Ur}
theorem Ap.below (h : Ap w0 t b n gp B BA BB D f oc pv rs i va vb la lb w) (hb : Below w.heap.size w W) : Ap w0 t b n gp B BA BB D f oc pv rs i va vb la lb W :=
  ⟨h.lv.below hb, (hb.block _ (lt_of_some h.bx)).trans h.bx, h.pt.below hb, fun x hx => (h.sh x hx).kq (Kq.of hb), h.ra.below hb, h.rb.below hb, h.ap, h.b0, h.gl⟩
/-- A store into a request. -/
theorem Ap.amt (h : Ap w0 t b n gp B BA BB D f oc pv rs i va vb la lb w) (hg : w.heap[g]? = some (.cells cs 37 m)) (hB : B ≤ g) : Ap w0 t b n gp B BA BB D f oc pv rs i va vb la lb (w.setCell ⟨g, j, none⟩ u) :=
  ⟨h.lv.write hg (by decide) (Nat.le_trans h.b0.1 hB) h.gl, row_write h.bx hg (by decide), own_write h.pt hg (by decide), fun x hx => (h.sh x hx).store, own_write h.ra hg (by decide), own_write h.rb hg (by decide), h.ap, h.b0, h.gl⟩
/-- A part's limits are cut. -/
theorem Ap.cut {q nn cap : Nat} (h : Ap w0 t b n gp B BA BB D f oc (.slice (some ⟨q, 0, none⟩) nn cap) rs i va vb la lb w) (hi : i < rs.length) : Ap w0 t b n gp B BA BB D f oc (.slice (some ⟨q, 0, none⟩) nn cap) rs (i + 1) va vb la lb (w.setCell ⟨q, i * 3 + 2, none⟩ (.slice none 0 0)) := by
  obtain ⟨cs', m', hg⟩ := h.pt.ty q rfl
  have hq := (h.pt.lt q rfl).1
  have hs := h.pt.set okPt i 2 (by rw [pl_len]; exact hi) (by decide) (cutP rs[i]) (.slice none 0 0) (by rw [pl_at hi]; rfl)
  rw [pl_set hi] at hs
  exact ⟨h.lv.write hg (by decide) (Nat.le_trans h.b0.1 hq) h.gl, row_write h.bx hg (by decide), hs, fun x hx => (h.sh x hx).write hg (by decide), own_write h.ra hg (by decide), own_write h.rb hg (by decide), h.ap, h.b0, h.gl⟩
/-- A row of the first answer is written. -/
theorem Ap.row {ga nn cap k : Nat} (h : Ap w0 t b n gp B BA BB D f oc pv rs i (.slice (some ⟨ga, 0, none⟩) nn cap) vb la lb w) (hk : k < la.length) : Ap w0 t b n gp B BA BB D f oc pv rs i (.slice (some ⟨ga, 0, none⟩) nn cap) vb (la.set k (wrU (la.getD k kUse.z))) lb ((w.setCell ⟨ga, k * 5 + 4, none⟩ (.int .i64 (-1))).setCell ⟨ga, k * 5, none⟩ (.string ⟨#[47, 122, 122]⟩)) := by
  obtain ⟨cur, _, _, hg, _⟩ := h.ra.parts
  have hq := Nat.le_trans h.b0.2.1 (h.ra.lt ga rfl).1
  have hb := h.ap ga rfl
  have hg1 : (w.setCell ⟨ga, k * 5 + 4, none⟩ (.int .i64 (-1))).heap[ga]? = some (.cells (cur.setIfInBounds (k * 5 + 4) (.int .i64 (-1))) kUse.t (0, 0)) := heap_setCell_same _ _ _ _ _ _ hg
  exact ⟨(h.lv.write hg (by decide) hq h.gl).write hg1 (by decide) hq h.gl, row_write (row_write h.bx hg (by decide)) hg1 (by decide), own_write (own_write h.pt hg (by decide)) hg1 (by decide), fun x hx => ((h.sh x hx).write hg (by decide)).write hg1 (by decide), own_setU h.ra k hk, (h.rb.far (set_grown _ _ _ _) hb).far (set_grown _ _ _ _) hb, h.ap, h.b0, h.gl⟩
end Le
end Go.Proofs.YtodfmnbfbndkhaaGreatDoor
end S1
