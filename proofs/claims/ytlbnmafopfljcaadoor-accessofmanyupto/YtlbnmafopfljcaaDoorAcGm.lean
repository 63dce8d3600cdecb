/-
  AcG, AcH, AcP, AcW, AcY, AcV, AcU, joined.
-/
import Derived.Test.YtlbnmafopfljcaaDoorAcO
import Derived.RangeFuncNested
import Derived.RangeFuncBound
import Derived.RangeFuncCalls
import Derived.RangeFuncLeaves
import Derived.RangeFuncWrites
import Derived.RangeFuncStops
import Derived.RangeFuncKeeps
import Derived.Sort.MapsRangeIn
import Derived.Maps.OwnIn
import Derived.LoopIn
import Derived.LoopNIn
import Derived.TacticsInMore
import Derived.Shelf.RegionOpen
section S0
namespace Go.Proofs.YtlbnmafopfljcaaDoor
open Go.RowKit Go.Shelf
namespace Ac
/-- The binding stands in the table. -/
def InD (D : DataW Unit) (x : Bd) : Prop := (∀ zd, D.atKey (kl x.p x.n) zd = eR x.s x.v) ∧ x.p.size ≤ maxLen ∧ x.n.size ≤ maxLen
theorem kl_inj {p n p' n' : ByteArray} (h : kl p n = kl p' n') (h1 : p.size ≤ maxLen) (h2 : n.size ≤ maxLen) (h3 : p'.size ≤ maxLen) (h4 : n'.size ≤ maxLen) : p = p' ∧ n = n' := by
  have e := K.inj (key_mk p n h1 h2) (by rw [h]; exact key_mk p' n' h3 h4)
  unfold pv at e
  simp only [Value.agg.injEq, Array.mk.injEq, List.cons.injEq, Value.string.injEq, and_true] at e
  exact e
theorem same_kl (p n : ByteArray) : (kl p n).sameKey (kl p n) = true := by unfold kl; simp [Lit.sameKey]
/-- What has come when just the keys in left are still to come. -/
def Coll (D : DataW Unit) (u : ByteArray) (v : Int) (left : Lit → Bool) (ss : List Bd) : Prop := ∀ x : Bd, x ∈ ss ↔ (InD D x ∧ isB x.s x.v u v = true ∧ left (kl x.p x.n) = false)
variable {D : DataW Unit} {u : ByteArray} {v : Int} {left : Lit → Bool} {ss : List Bd}
theorem Coll.start : Coll D u v (Maps.has D) [] := fun x => by
  refine ⟨fun h => by simp at h, fun h => ?_⟩
  rw [Maps.has_true_of_atKey h.1.1] at h
  simp at h
theorem Coll.skip (h : Coll D u v left ss) {x : Bd} (hx : InD D x) (hn : isB x.s x.v u v = false) : Coll D u v (fun z => left z && !z.sameKey (kl x.p x.n)) ss := fun y => by
  rw [h y]
  refine ⟨fun ⟨a, b, c⟩ => ⟨a, b, by simp [c]⟩, fun ⟨a, b, c⟩ => ⟨a, b, ?_⟩⟩
  by_cases e : kl y.p y.n = kl x.p x.n
  · have q := a.1 (.map [])
    rw [e, hx.1] at q
    obtain ⟨q1, q2⟩ := eR_inj q
    rw [← q1, ← q2, hn] at b
    simp at b
  · simpa [Maps.sameKey_ne e] using c
theorem Coll.step (h : Coll D u v left ss) {x : Bd} (hx : InD D x) (hn : isB x.s x.v u v = true) : Coll D u v (fun z => left z && !z.sameKey (kl x.p x.n)) (ss ++ [x]) := fun y => by
  rw [List.mem_append, List.mem_singleton, h y]
  constructor
  · rintro (⟨a, b, c⟩ | rfl)
    · exact ⟨a, b, by simp [c]⟩
    · exact ⟨hx, hn, by simp [same_kl]⟩
  · rintro ⟨a, b, c⟩
    by_cases e : kl y.p y.n = kl x.p x.n
    · refine Or.inr ?_
      have q := a.1 (.map [])
      rw [e, hx.1] at q
      obtain ⟨q1, q2⟩ := eR_inj q
      obtain ⟨r1, r2⟩ := kl_inj e a.2.1 a.2.2 hx.2.1 hx.2.2
      cases x; cases y
      simp only at q1 q2 r1 r2
      rw [q1, q2, r1, r2]
    · exact Or.inl ⟨a, b, by simpa [Maps.sameKey_ne e] using c⟩
theorem Coll.all (h : Coll D u v left ss) (hl : ∀ k, left k = false) : ∀ x, x ∈ ss ↔ InD D x ∧ isB x.s x.v u v = true := fun x => by
  rw [h x, hl]
  simp
/-- The boxes that the closure has captured. -/
def gW (w : World) (t : Nat) (u : ByteArray) (v : Int) : World := ((w.alloc (.cells #[.pointer (some ⟨t, 0, none⟩)] 23)).alloc (.cells #[.string u] 9)).alloc (.cells #[.int .i64 v] 3)
/-- What a round must keep. -/
def Kg (t c1 c2 c3 : Nat) (W W' : World) : Prop := KeepsWalks W W' ∧ ∀ y, y = t ∨ y = c1 ∨ y = c2 ∨ y = c3 → W'.heap[y]? = W.heap[y]?
end Ac
end Go.Proofs.YtlbnmafopfljcaaDoor
end S0

section S1
namespace Go.Proofs.YtlbnmafopfljcaaDoor
open Go.RowKit Go.Shelf
namespace Ac
theorem grown_of_below {w w' : World} (h : Below w.heap.size w w') : w.grownBy w' none := ⟨h.os, h.tape, h.output, h.size, fun i hi _ => h.block i hi⟩
end Ac
end Go.Proofs.YtlbnmafopfljcaaDoor
end S1

section S2
namespace Go.Proofs.YtlbnmafopfljcaaDoor
open Go.RowKit
namespace Ac
/-- The line of a text: of what is no path none. -/
def lineP (p : ByteArray) : List ByteArray := match L.splitO p with
  | some ts => L.lineOf ts
  | none => []
theorem splitE_no {p : ByteArray} (h : L.splitO p = none) : L.splitE p = 41 := by unfold L.splitE; rw [h]; rfl
/-- A round of Why. -/
def stp (ln : List ByteArray) (a : Bool × Bd) (x : Bd) : Bool × Bd := if (Lib.containsS ln x.p && (!a.1 || nearB x a.2)) = true then (true, x) else a
def fol (ln : List ByteArray) (xs : List Bd) : Bool × Bd := xs.foldl (stp ln) (false, Bd.z)
theorem fol_snoc (ln : List ByteArray) (xs : List Bd) (x : Bd) : fol ln (xs ++ [x]) = stp ln (fol ln xs) x := by simp [fol, List.foldl_append]
theorem fold_yes (ln : List ByteArray) : ∀ (xs : List Bd) (a : Bool × Bd), (xs.foldl (stp ln) a).1 = true ↔ (a.1 = true ∨ ∃ x ∈ xs, Lib.containsS ln x.p = true)
  | [], a => by simp
  | x :: xs, a => by
    rw [List.foldl_cons, fold_yes ln xs]
    unfold stp
    cases hc : Lib.containsS ln x.p with
    | false => simp [hc]
    | true =>
      cases ha : a.1 with
      | true =>
        simp only [Bool.not_true, Bool.false_or, Bool.true_and, true_or, iff_true]
        split
        · exact Or.inl rfl
        · exact Or.inl ha
      | false => simp [hc]
theorem fol_yes (ln : List ByteArray) (xs : List Bd) : (fol ln xs).1 = true ↔ ∃ x ∈ xs, Lib.containsS ln x.p = true := by
  unfold fol
  rw [fold_yes]
  simp
theorem strs_cells {w w' : World} {v : Value} {ln : List ByteArray} (H : L.Strs w v ln) (h : ∀ (b o : Nat) (y : Value), w.cell? ⟨b, o, none⟩ = some y → w'.cell? ⟨b, o, none⟩ = some y) : L.Strs w' v ln := by
  obtain ⟨a, c, e, h1, h2, h3, hc⟩ := H
  exact ⟨a, c, e, h1, h2, h3, fun k hk => by
    obtain ⟨b, off, e1, e2⟩ := hc k hk
    exact ⟨b, off, e1, h _ _ _ e2⟩⟩
end Ac
end Go.Proofs.YtlbnmafopfljcaaDoor
end S2

section S3
namespace Go.Proofs.YtlbnmafopfljcaaDoor
open Go.RowKit Go.Shelf
attribute [local go_sem] Oper.semAt_some
namespace Ac
theorem gW_size (w : World) (t : Nat) (u : ByteArray) (v : Int) : (gW w t u v).heap.size = w.heap.size + 3 := by simp [gW]
theorem gW_below (w : World) (t : Nat) (u : ByteArray) (v : Int) : Below w.heap.size w (gW w t u v) := by
  unfold gW
  exact (((Below.refl _ w).alloc (Nat.le_refl _) _).alloc (by simp) _).alloc (by simp; omega) _
theorem gW_cells (w : World) (t : Nat) (u : ByteArray) (v : Int) : (gW w t u v).cell? ⟨w.heap.size, 0, none⟩ = some (.pointer (some ⟨t, 0, none⟩)) ∧ (gW w t u v).cell? ⟨w.heap.size + 1, 0, none⟩ = some (.string u) ∧ (gW w t u v).cell? ⟨w.heap.size + 1 + 1, 0, none⟩ = some (.int .i64 v) := by
  unfold gW
  refine ⟨cellA (cellA (by rw [World.cell?_alloc_new]; rfl) _) _, cellA ?_ _, ?_⟩
  · have := World.cell?_alloc_new (w.alloc (.cells #[.pointer (some ⟨t, 0, none⟩)] 23)) #[.string u] 9 0
    rw [World.size_alloc] at this
    exact this
  · have := World.cell?_alloc_new ((w.alloc (.cells #[.pointer (some ⟨t, 0, none⟩)] 23)).alloc (.cells #[.string u] 9)) #[.int .i64 v] 3 0
    rw [World.size_alloc, World.size_alloc] at this
    exact this
/-- Why's own memory between two rounds. -/
structure Wy (w : World) (g8 g10 g12 g13 : Nat) (a : Option Addr) (n c : Nat) (ln : List ByteArray) (f : Bool) (z : Bd) (gz : Nat) (W : World) : Prop where
  r8 : W.heap[g8]? = some (.cells #[.string ⟨#[]⟩, .string ⟨#[]⟩, .string ⟨#[]⟩, .int .i64 0] 36 (0, 0))
  l : W.heap[g10]? = some (.cells #[.slice a n c] 68 (0, 0))
  s : L.Strs W (.slice a n c) ln
  z : W.heap[g12]? = some (.cells #[.string z.p, .string z.n, .string z.s, .int .i64 z.v] 36 (0, 0))
  f : W.heap[g13]? = some (.cells #[.bool f] 4 (0, 0))
  b : Below w.heap.size w W
  le : w.heap.size ≤ g8 ∧ w.heap.size ≤ g10 ∧ w.heap.size ≤ g12 ∧ w.heap.size ≤ g13
  gs : gz ≤ W.heap.size
  sb : ∀ bb oo, a = some ⟨bb, oo, none⟩ → ln ≠ [] → bb < g10
theorem cells_same {W W' : World} {row : Option Nat} {B y : Nat} {cs : Array Value} {ty : TypeId} (hg : W.grownBy W' row) (hr : ∀ r, row = some r → B ≤ r ∧ ∃ o : Obj, W.heap[r]? = some o ∧ o.isCells = false) (h : W.heap[y]? = some (.cells cs ty (0, 0))) : W'.heap[y]? = some (.cells cs ty (0, 0)) :=
  (hg.block y (lt_of_some h) (fun e => by
    obtain ⟨_, o, ho, hc⟩ := hr y e.symm
    rw [h] at ho
    simp only [Option.some.injEq] at ho
    rw [← ho] at hc
    simp [Obj.isCells] at hc)).trans h
variable {w W W' : World} {g8 g10 g12 g13 n c gz : Nat} {a : Option Addr} {ln : List ByteArray} {f f' : Bool} {z z' : Bd}
theorem Wy.grown (h : Wy w g8 g10 g12 g13 a n c ln f z gz W) {row : Option Nat} {B : Nat} (hB : w.heap.size ≤ B) (hg : W.grownBy W' row) (hr : ∀ r, row = some r → B ≤ r ∧ ∃ o : Obj, W.heap[r]? = some o ∧ o.isCells = false) : Wy w g8 g10 g12 g13 a n c ln f z gz W' :=
  ⟨cells_same hg hr h.r8, cells_same hg hr h.l, strs_cells h.s (fun _ _ _ hc => cell_kept hc hg (fun r e => (hr r e).2)), cells_same hg hr h.z, cells_same hg hr h.f, h.b.trans ((Below.refl _ W).grown hg h.b.size (fun k e => Nat.le_trans hB (hr k e).1)), h.le, Nat.le_trans h.gs hg.size, h.sb⟩
theorem Wy.below (h : Wy w g8 g10 g12 g13 a n c ln f z gz W) (hb : Below W.heap.size W W') : Wy w g8 g10 g12 g13 a n c ln f z gz W' :=
  h.grown (B := w.heap.size) (Nat.le_refl _) (grown_of_below hb) (fun r e => by cases e)
/-- The two boxes turned. -/
theorem Wy.turn {m : Nat} (h : Wy w g8 m (m + 1) (m + 1 + 1) a n c ln f z gz W) (hk : Kept (fun y => y = m + 1 ∨ y = m + 1 + 1) W W') (h8 : g8 < m)
    (hz : W'.heap[m + 1]? = some (.cells #[.string z'.p, .string z'.n, .string z'.s, .int .i64 z'.v] 36 (0, 0))) (hf : W'.heap[m + 1 + 1]? = some (.cells #[.bool f'] 4 (0, 0))) : Wy w g8 m (m + 1) (m + 1 + 1) a n c ln f' z' gz W' := by
  refine ⟨(hk.block g8 (lt_of_some h.r8) (by omega)).trans h.r8, (hk.block m (lt_of_some h.l) (by omega)).trans h.l, ?_, hz, hf, h.b.trans (hk.below h.b.size (fun x e => by have := h.le; omega)), h.le, Nat.le_trans h.gs hk.size, h.sb⟩
  obtain ⟨a', c', e, h1, h2, h3, hc⟩ := h.s
  refine ⟨a', c', e, h1, h2, h3, fun k hk' => ?_⟩
  obtain ⟨b, off, e1, e2⟩ := hc k hk'
  simp only [Value.slice.injEq] at e
  have hlt := h.sb b off (by rw [e.1, e1]) (by intro q; rw [q] at hk'; simp at hk')
  exact ⟨b, off, e1, (World.cell?_of_block (hk.block b (block_lt_of_cell e2) (by omega))).trans e2⟩
/-- What the law asks of a round that turned just these. -/
theorem turn_keeps {m t c1 c2 c3 B : Nat} (h : Wy w g8 m (m + 1) (m + 1 + 1) a n c ln f z gz W) (hk : Kept (fun y => y = m + 1 ∨ y = m + 1 + 1) W W') (ht : t < m) (hB : m + 1 + 1 < B) (h1 : m + 1 + 1 < c1) (h2 : m + 1 + 1 < c2) (h3 : m + 1 + 1 < c3) (hc : c1 < W.heap.size ∧ c2 < W.heap.size ∧ c3 < W.heap.size) : KeepsFrom B W W' ∧ Kg t c1 c2 c3 W W' := by
  have lm := lt_of_some h.l
  refine ⟨⟨hk.size, fun k o hB' hk' _ => (hk.block k (lt_of_some hk') (by omega)).trans hk'⟩, ⟨hk.size, fun k o hk' ho => (hk.block k (lt_of_some hk') (fun e => ?_)).trans hk'⟩, fun y hy => hk.block y (by omega) (by omega)⟩
  rcases e with e | e
  · rw [e, h.z] at hk'
    simp only [Option.some.injEq] at hk'
    rw [← hk'] at ho
    simp [Obj.isWalk] at ho
  · rw [e, h.f] at hk'
    simp only [Option.some.injEq] at hk'
    rw [← hk'] at ho
    simp [Obj.isWalk] at ho
theorem set4 {W : World} {g : Nat} {a b c d a' b' c' d' : Value} {ty : TypeId} (h : W.heap[g]? = some (.cells #[a, b, c, d] ty (0, 0))) : ((((W.setCell ⟨g, 0, none⟩ a').setCell ⟨g, 1, none⟩ b').setCell ⟨g, 2, none⟩ c').setCell ⟨g, 3, none⟩ d').heap[g]? = some (.cells #[a', b', c', d'] ty (0, 0)) := by
  rw [heap_setCell_same _ _ _ _ _ _ (heap_setCell_same _ _ _ _ _ _ (heap_setCell_same _ _ _ _ _ _ (heap_setCell_same _ _ _ _ _ _ h)))]
  rfl
theorem results_cell1 {fn : Func} {p u : Tmp} {ty : TypeId} (h : fn.results = #[.cell p ty, .tmp u]) (tmps : Array Value) (w : World) (ad : Addr) (x : Value)
    (hp : tmps.getD p undef = .pointer (some ad)) (hl : (loadVar ty ad).run Tryd.prog w = .ok x w) :
    (results fn tmps).run Tryd.prog w = .ok (.tuple #[x, tmps.getD u undef]) w := by
  have hp' : tmps[p]?.getD undef = .pointer (some ad) := by simpa using hp
  simp [results, h, hp', asAddr, hl, Result.andThen]
theorem load_bd {w : World} {g : Nat} {a : Array Value} (h : w.heap[g]? = some (.cells a 36 (0, 0))) (hs : a.size = 4) : (loadVar 36 ⟨g, 0, none⟩).run Tryd.prog w = .ok (.agg a) w :=
  run_loadVar_row w g _ _ _ _ _ h Tryd.underlying36 rfl (by rw [hs]; exact size_bd)
theorem five {m : Nat} (W : World) (a b c d e : Value) : Kept (fun y => y = m + 1 ∨ y = m + 1 + 1) W (((((W.setCell ⟨m + 1, 0, none⟩ a).setCell ⟨m + 1, 1, none⟩ b).setCell ⟨m + 1, 2, none⟩ c).setCell ⟨m + 1, 3, none⟩ d).setCell ⟨m + 1 + 1, 0, none⟩ e) := by
  have k : ∀ (A : World) (g i : Nat) (y : Value), (g = m + 1 ∨ g = m + 1 + 1) → Kept (fun y => y = m + 1 ∨ y = m + 1 + 1) A (A.setCell ⟨g, i, none⟩ y) := fun A g i y h => kept_set (F := fun y => y = m + 1 ∨ y = m + 1 + 1) A ⟨g, i, none⟩ y h
  exact ((((k _ _ _ _ (Or.inl rfl)).trans (k _ _ _ _ (Or.inl rfl)) (fun _ _ e => e)).trans (k _ _ _ _ (Or.inl rfl)) (fun _ _ e => e)).trans (k _ _ _ _ (Or.inl rfl)) (fun _ _ e => e)).trans (k _ _ _ _ (Or.inr rfl)) (fun _ _ e => e)
theorem Wy.five {m : Nat} (h : Wy w g8 m (m + 1) (m + 1 + 1) a n c ln f z gz W) (h8 : g8 < m) (xp xn xs : ByteArray) (xv : Int) : Wy w g8 m (m + 1) (m + 1 + 1) a n c ln true ⟨xp, xn, xs, xv⟩ gz (((((W.setCell ⟨m + 1, 0, none⟩ (.string xp)).setCell ⟨m + 1, 1, none⟩ (.string xn)).setCell ⟨m + 1, 2, none⟩ (.string xs)).setCell ⟨m + 1, 3, none⟩ (.int .i64 xv)).setCell ⟨m + 1 + 1, 0, none⟩ (.bool true)) := by
  have ne : m + 1 ≠ m + 1 + 1 := by omega
  have ne' : m + 1 + 1 ≠ m + 1 := by omega
  refine h.turn (Ac.five W _ _ _ _ _) h8 ?_ ?_
  · rw [Below.heap_setCell _ _ _ _ ne]
    exact set4 h.z
  · rw [heap_setCell_same _ _ _ _ _ _ (show (((((W.setCell ⟨m + 1, 0, none⟩ (.string xp)).setCell ⟨m + 1, 1, none⟩ (.string xn)).setCell ⟨m + 1, 2, none⟩ (.string xs)).setCell ⟨m + 1, 3, none⟩ (.int .i64 xv))).heap[m + 1 + 1]? = some (.cells #[.bool f] 4 (0, 0)) by rw [Below.heap_setCell _ _ _ _ ne', Below.heap_setCell _ _ _ _ ne', Below.heap_setCell _ _ _ _ ne', Below.heap_setCell _ _ _ _ ne']; exact h.f)]
    rfl
end Ac
end Go.Proofs.YtlbnmafopfljcaaDoor
end S3

section S4
namespace Go.Proofs.YtlbnmafopfljcaaDoor
open Go.RowKit
namespace Ac
def rootT : ByteArray := ⟨#[114, 111, 111, 116]⟩
/-- What May tells. -/
def MayP (D : DataW Unit) (s : ByteArray) (v : Int) (path : ByteArray) : Prop :=
  (s = rootT ∧ vbB v = true ∧ L.splitE path = 0) ∨ (s ≠ rootT ∧ ∃ x, InD D x ∧ isB x.s x.v s v = true ∧ x.p ∈ lineP path)
theorem lineP_good {ts : List ByteArray} (hg : L.Good ts) : lineP (L.pth ts) = L.lineOf ts := by unfold lineP; rw [L.splitO_good hg]
theorem mem_line (ts : List ByteArray) (x : ByteArray) : x ∈ L.lineOf ts ↔ ∃ k, k ≤ ts.length ∧ x = L.pth (ts.take k) := by
  unfold L.lineOf L.lineTo
  simp only [List.mem_map, List.mem_range]
  constructor
  · rintro ⟨j, hj, rfl⟩
    exact ⟨ts.length - j, by omega, rfl⟩
  · rintro ⟨k, hk, rfl⟩
    exact ⟨ts.length - k, by omega, by rw [show ts.length - (ts.length - k) = k by omega]⟩
variable {D : DataW Unit} {s : ByteArray} {v : Int}
/-- What may be done at a path above may be done below it. -/
theorem may_down {ts : List ByteArray} (hg : L.Good ts) {l : ByteArray} (hl : l ∈ L.lineOf ts) (h : MayP D s v l) : MayP D s v (L.pth ts) := by
  obtain ⟨k, hk, rfl⟩ := (mem_line ts l).1 hl
  rcases h with ⟨a, b, _⟩ | ⟨a, x, b, c, d⟩
  · exact Or.inl ⟨a, b, by unfold L.splitE; rw [L.splitO_good hg]; rfl⟩
  · refine Or.inr ⟨a, x, b, c, ?_⟩
    rw [lineP_good (hg.take k), mem_line] at d
    rw [lineP_good hg, mem_line]
    obtain ⟨j, hj, e⟩ := d
    rw [List.length_take] at hj
    refine ⟨j, by omega, ?_⟩
    rw [e, List.take_take, Nat.min_eq_left (by omega)]
/-- With a verb all that it includes. -/
theorem may_less {l : ByteArray} (h : MayP D s v l) (hv : 1 ≤ v) : MayP D s (v - 1) l := by
  have vb : vbB v = true → vbB (v - 1) = true := fun h => by
    unfold vbB at h ⊢
    simp only [Bool.and_eq_true, decide_eq_true_iff] at h ⊢
    omega
  rcases h with ⟨a, b, c⟩ | ⟨a, x, b, c, d⟩
  · exact Or.inl ⟨a, vb b, c⟩
  · refine Or.inr ⟨a, x, b, ?_, d⟩
    unfold isB at c ⊢
    simp only [Bool.and_eq_true, decide_eq_true_iff] at c ⊢
    exact ⟨c.1, vb c.2.1, by omega⟩
theorem may_root {ts : List ByteArray} (hg : L.Good ts) (h0 : 0 ≤ v) (h3 : v ≤ 3) : MayP D rootT v (L.pth ts) :=
  Or.inl ⟨rfl, by unfold vbB; simp [h0, h3], by unfold L.splitE; rw [L.splitO_good hg]; rfl⟩
theorem may_none {p : ByteArray} (h : L.splitO p = none) : ¬ MayP D s v p := by
  rintro (⟨_, _, c⟩ | ⟨_, x, _, _, d⟩)
  · rw [splitE_no h] at c; simp at c
  · unfold lineP at d; rw [h] at d; simp at d
end Ac
end Go.Proofs.YtlbnmafopfljcaaDoor
end S4

section S5
namespace Go.Proofs.YtlbnmafopfljcaaDoor
open Go.RowKit
namespace Ac
/-- A step. -/
structure Sp where
  two : Bool
  kind : Int
  verb : Int
  b : Bd
  p : ByteArray
  n : ByteArray
  s : ByteArray
def Sp.cells (o : Sp) : List Value := [.bool o.two, .int .i64 o.kind, .int .i64 o.verb, .string o.b.p, .string o.b.n, .string o.b.s, .int .i64 o.b.v, .string o.p, .string o.n, .string o.s]
structure Sp.Fit (o : Sp) : Prop where
  b : o.b.Fit
  p : o.p.size ≤ 140737488355328
  n : o.n.size ≤ 140737488355328
  k : -9223372036854775808 ≤ o.kind ∧ o.kind ≤ 9223372036854775807
variable {w w' : World} {t b n : Nat} {D : DataW Unit}
theorem Ta.more (h : Ta w t b n D) {n' : Nat} (hn : n ≤ n') : Ta w t b n' D := ⟨h.tb.more hn, h.hm⟩
end Ac
end Go.Proofs.YtlbnmafopfljcaaDoor
end S5

section S6
namespace Go.Proofs.YtlbnmafopfljcaaDoor
open Go.RowKit
namespace Ac
def x0 : Bd := ⟨⟨#[47, 97]⟩, ⟨#[119]⟩, ⟨#[97, 110, 110]⟩, 1⟩
def D1 : DataW Unit := (DataW.map []).put (kl x0.p x0.n) (eR x0.s x0.v)
def D2 : DataW Unit := D1.del (kl x0.p x0.n)
theorem x0_fit : x0.Fit := ⟨by decide, by decide⟩
theorem x0_ok : (bdR x0).2 = 0 := by kernel_rfl
theorem key_lit (p n : ByteArray) : WideAt.IsKeyLit (kl p n) := by unfold kl; trivial
theorem in_x0 : InD D1 x0 := ⟨fun zd => by unfold D1; exact Maps.atKey_put_same Maps.isMap_empty (key_lit _ _) _ zd, by decide, by decide⟩
theorem in_D1 {x : Bd} (h : InD D1 x) : x = x0 := by
  by_cases e : kl x.p x.n = kl x0.p x0.n
  · have q := h.1 (.map [])
    rw [e, in_x0.1] at q
    obtain ⟨q1, q2⟩ := eR_inj q
    obtain ⟨r1, r2⟩ := kl_inj e h.2.1 h.2.2 in_x0.2.1 in_x0.2.2
    cases x
    simp only at q1 q2 r1 r2
    rw [← q1, ← q2, r1, r2]
  · have q := h.1 (.lit (.bool true))
    have q' := h.1 (.lit (.bool false))
    unfold D1 at q q'
    rw [Maps.atKey_put_other e] at q q'
    have z : ∀ zd, (DataW.map [] : DataW Unit).atKey (kl x.p x.n) zd = zd := fun zd => Maps.atKey_of_not_has rfl zd
    rw [z] at q q'
    rw [← q'] at q
    simp at q
theorem in_D2 {x : Bd} (h : InD D2 x) : False := by
  by_cases e : kl x.p x.n = kl x0.p x0.n
  · have q := h.1 (.lit (.bool true))
    have q' := h.1 (.lit (.bool false))
    unfold D2 at q q'
    rw [e, Maps.atKey_del_same] at q q'
    rw [← q'] at q
    simp at q
  · have hx : InD D1 x := ⟨fun zd => by have := h.1 zd; unfold D2 at this; rw [Maps.atKey_del_other e] at this; exact this, h.2⟩
    rw [in_D1 hx] at e
    exact e rfl
theorem yes1 (v : Int) (p : ByteArray) (h1 : isB x0.s x0.v x0.s v = true) (h2 : Lib.containsS (lineP p) x0.p = true) : MayP D1 x0.s v p := Or.inr ⟨fun e => by have := congrArg ByteArray.size e; simp [x0, rootT, ByteArray.size] at this, x0, in_x0, h1, (Lib.containsS_iff _ _).1 h2⟩
theorem no1 (s : ByteArray) (v : Int) (p : ByteArray) (hs : s ≠ rootT) (h : isB x0.s x0.v s v = false ∨ Lib.containsS (lineP p) x0.p = false) : ¬ MayP D1 s v p := by
  rintro (⟨e, _⟩ | ⟨_, x, a, c, d⟩)
  · exact hs e
  · rw [in_D1 a] at c d
    rcases h with h | h
    · rw [h] at c; simp at c
    · rw [(Lib.containsS_iff _ _).2 d] at h; simp at h
theorem no2 (s : ByteArray) (v : Int) (p : ByteArray) (hs : s ≠ rootT) : ¬ MayP D2 s v p := by
  rintro (⟨e, _⟩ | ⟨_, x, a, _, _⟩)
  · exact hs e
  · exact in_D2 a
theorem ne_root (s : ByteArray) (h : s.size = 3) : s ≠ rootT := fun e => by rw [e] at h; exact absurd h (by decide)
theorem m1 : MayP D1 ⟨#[97, 110, 110]⟩ 0 ⟨#[47, 97, 47, 98]⟩ := yes1 0 ⟨#[47, 97, 47, 98]⟩ (by kernel_rfl) (by kernel_rfl)
theorem m2 : MayP D1 ⟨#[97, 110, 110]⟩ 1 ⟨#[47, 97]⟩ := yes1 1 ⟨#[47, 97]⟩ (by kernel_rfl) (by kernel_rfl)
theorem m3 : ¬ MayP D1 ⟨#[97, 110, 110]⟩ 2 ⟨#[47, 97]⟩ := no1 _ _ _ (ne_root _ rfl) (Or.inl (by kernel_rfl))
theorem m4 : ¬ MayP D1 ⟨#[97, 110, 110]⟩ 0 ⟨#[47, 97, 98]⟩ := no1 _ _ _ (ne_root _ rfl) (Or.inr (by kernel_rfl))
theorem m5 : ¬ MayP D1 ⟨#[98, 111, 98]⟩ 0 ⟨#[47, 97]⟩ := no1 _ _ _ (ne_root _ rfl) (Or.inl (by kernel_rfl))
theorem m6 : ¬ MayP D2 ⟨#[97, 110, 110]⟩ 0 ⟨#[47, 97]⟩ := no2 _ _ _ (ne_root _ rfl)
theorem m7 : MayP D2 ⟨#[114, 111, 111, 116]⟩ 3 ⟨#[47, 97]⟩ := Or.inl ⟨rfl, by kernel_rfl, by kernel_rfl⟩
theorem a_ok : L.splitE x0.p = 0 := by kernel_rfl
end Ac
end Go.Proofs.YtlbnmafopfljcaaDoor
end S6
