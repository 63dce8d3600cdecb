/-
  The document's Print: its boxes, for the loop.
-/
import Derived.Test.YtjegjpdeclgegaaDoorLgU
import Derived.Test.YtjegjpdeclgegaaDoorLgV
import Derived.Deep.DeepCutAuto
import Derived.Deep.RegionHeld3
namespace Go.Proofs.YtjegjpdeclgegaaDoor
open Go.RowKit Go.Lib
open Go.Sort (grow)
namespace Lg
theorem bal {W V : World} (h : Below W.heap.size W V) (o : Obj) : Below W.heap.size W (V.alloc o) := h.alloc h.size o
theorem ht {W V X : World} (h : Below W.heap.size W V) (h' : Below V.heap.size V X) : Below W.heap.size W X := h.trans (h'.mono h.size)
/-- A box of the body's own. -/
structure Bx (wr X : World) (p : Nat) : Prop where
  box : X.heap[p]? = some (Obj.cells #[.slice none 0 0] 40 (0, 0))
  ge : wr.heap.size ≤ p
theorem Bx.lt {wr X : World} {p : Nat} (h : Bx wr X p) : p < X.heap.size := by
  rcases Nat.lt_or_ge p X.heap.size with q | q
  · exact q
  · have := h.box; rw [Array.getElem?_eq_none q] at this; simp at this
theorem Bx.call {wr W X : World} {p : Nat} (h : Bx wr W p) (hb : Below W.heap.size W X) : Bx wr X p := ⟨(hb.block p h.lt).trans h.box, h.ge⟩
theorem Bx.alloc {wr W : World} {p : Nat} (h : Bx wr W p) : Bx wr (W.alloc (Obj.cells #[.slice none 0 0] 40)) p := h.call (bal (Below.refl _ _) _)
theorem Bx.made {wr W : World} (h : Below wr.heap.size wr W) : Bx wr (W.alloc (Obj.cells #[.slice none 0 0] 40)) W.heap.size := ⟨heap_alloc_new _ _, h.size⟩
theorem Bx.any {wr X : World} {p : Nat} (h : Bx wr X p) (o : Obj) : (X.alloc o).cell? ⟨p, 0, none⟩ = some (.slice none 0 0) ∧ (X.alloc o).frozen? ⟨p, 0, none⟩ = false :=
  have q := ((bal (Below.refl X.heap.size X) o).block p h.lt).trans h.box
  ⟨cell1 q, frz q 0⟩
theorem cellA {X : World} {a : Addr} {u : Value} (h : X.cell? a = some u) (o : Obj) : (X.alloc o).cell? a = some u := ((bal (Below.refl X.heap.size X) o).cell (block_lt_of_cell h)).trans h
theorem setA {X : World} {g k p : Nat} {u : Value} (h : X.cell? ⟨g, k, none⟩ = some u) (hn : g ≠ p) (x : Value) : (X.setCell ⟨p, 0, none⟩ x).cell? ⟨g, k, none⟩ = some u := (World.cell?_of_block (Below.heap_setCell _ _ _ _ hn)).trans h
theorem szA (W : World) (o : Obj) : (W.alloc o).heap.size = W.heap.size + 1 := by simp
theorem Bx.mado {wr W : World} (h : Below wr.heap.size wr W) : Bx wr ((W.alloc (Obj.cells #[.slice none 0 0] 40)).alloc (Obj.cells #[.slice none 0 0] 40)) (W.heap.size + 1) := by
  have q := Bx.made (bal h (Obj.cells #[.slice none 0 0] 40))
  rw [szA] at q; exact q
def Pr (wr X : World) (p q : Nat) : Prop := Bx wr X p ∧ Bx wr X q ∧ p ≠ q ∧ Below wr.heap.size wr X
theorem Pr.two {wr X : World} {p q : Nat} (h : Pr wr X p q) (x : Value) : X.cell? ⟨p, 0, none⟩ = some (.slice none 0 0) ∧ X.frozen? ⟨p, 0, none⟩ = false ∧ X.cell? ⟨q, 0, none⟩ = some (.slice none 0 0) ∧ X.frozen? ⟨q, 0, none⟩ = false ∧ (X.setCell ⟨p, 0, none⟩ x).cell? ⟨q, 0, none⟩ = some (.slice none 0 0) ∧ (X.setCell ⟨p, 0, none⟩ x).frozen? ⟨q, 0, none⟩ = false ∧ (X.setCell ⟨q, 0, none⟩ x).cell? ⟨p, 0, none⟩ = some (.slice none 0 0) ∧ (X.setCell ⟨q, 0, none⟩ x).frozen? ⟨p, 0, none⟩ = false :=
  ⟨cell1 h.1.box, frz h.1.box 0, cell1 h.2.1.box, frz h.2.1.box 0, cell1 (set_heap h.2.1.box x (Ne.symm h.2.2.1)), frz (set_heap h.2.1.box x (Ne.symm h.2.2.1)) 0, cell1 (set_heap h.1.box x h.2.2.1), frz (set_heap h.1.box x h.2.2.1) 0⟩
theorem Pr.symm {wr X : World} {p q : Nat} (h : Pr wr X p q) : Pr wr X q p := ⟨h.2.1, h.1, Ne.symm h.2.2.1, h.2.2.2⟩
theorem Pr.leaf {wr X : World} {p q v N : Nat} {qa ra : Option Addr} {qn qc rn rc : Nat} (h : Pr wr X p q) (hr : Row kI X (.slice qa qn qc) (dg (v / N))) (hn : rn = (dg (v % N)).length) : ∃ p7 p8 qa' qn' qc' ra' rn' rc', Value.pointer (some ⟨p, 0, none⟩) = .pointer (some ⟨p7, 0, none⟩) ∧ Value.pointer (some ⟨q, 0, none⟩) = .pointer (some ⟨p8, 0, none⟩) ∧ ((X.setCell ⟨p, 0, none⟩ (.slice qa qn qc)).setCell ⟨q, 0, none⟩ (.slice ra rn rc)).heap[p7]? = some (.cells #[.slice qa' qn' qc'] 40 (0, 0)) ∧ ((X.setCell ⟨p, 0, none⟩ (.slice qa qn qc)).setCell ⟨q, 0, none⟩ (.slice ra rn rc)).heap[p8]? = some (.cells #[.slice ra' rn' rc'] 40 (0, 0)) ∧ Row kI ((X.setCell ⟨p, 0, none⟩ (.slice qa qn qc)).setCell ⟨q, 0, none⟩ (.slice ra rn rc)) (.slice qa' qn' qc') (dg (v / N)) ∧ rn' = (dg (v % N)).length ∧ Below wr.heap.size wr ((X.setCell ⟨p, 0, none⟩ (.slice qa qn qc)).setCell ⟨q, 0, none⟩ (.slice ra rn rc)) :=
  ⟨p, q, qa, qn, qc, ra, rn, rc, rfl, rfl, set_heap (set1 h.1.box _) _ h.2.2.1, set1 (set_heap h.2.1.box _ (Ne.symm h.2.2.1)) _, row_set (set_heap h.2.1.box _ (Ne.symm h.2.2.1)) (row_set h.1.box hr _) _, hn, (h.2.2.2.setCell (p := ⟨p, 0, none⟩) h.1.ge _).setCell (p := ⟨q, 0, none⟩) h.2.1.ge _⟩
theorem newA (X : World) (t : TypeId) (a b : Value) : ((X.alloc (.cells #[a] t)).alloc (.cells #[b] t)).heap[X.heap.size]? = some (.cells #[a] t (0, 0)) ∧ ((X.alloc (.cells #[a] t)).alloc (.cells #[b] t)).heap[X.heap.size + 1]? = some (.cells #[b] t (0, 0)) := by
  refine ⟨?_, ?_⟩
  · rw [Below.heap_alloc _ _ _ (by simp)]; exact heap_alloc_new _ _
  · have q := heap_alloc_new (X.alloc (.cells #[a] t)) (.cells #[b] t)
    rw [szA] at q; exact q
theorem leafP {wr X : World} {v N : Nat} {qa ra : Option Addr} {qn qc rn rc : Nat} (hb : Below wr.heap.size wr X) (hr : Row kI X (.slice qa qn qc) (dg (v / N))) (hn : rn = (dg (v % N)).length) : ∃ p7 p8 qa' qn' qc' ra' rn' rc', Value.pointer (some ⟨X.heap.size, 0, none⟩) = .pointer (some ⟨p7, 0, none⟩) ∧ Value.pointer (some ⟨X.heap.size + 1, 0, none⟩) = .pointer (some ⟨p8, 0, none⟩) ∧ ((X.alloc (Obj.cells #[.slice qa qn qc] 40)).alloc (Obj.cells #[.slice ra rn rc] 40)).heap[p7]? = some (.cells #[.slice qa' qn' qc'] 40 (0, 0)) ∧ ((X.alloc (Obj.cells #[.slice qa qn qc] 40)).alloc (Obj.cells #[.slice ra rn rc] 40)).heap[p8]? = some (.cells #[.slice ra' rn' rc'] 40 (0, 0)) ∧ Row kI ((X.alloc (Obj.cells #[.slice qa qn qc] 40)).alloc (Obj.cells #[.slice ra rn rc] 40)) (.slice qa' qn' qc') (dg (v / N)) ∧ rn' = (dg (v % N)).length ∧ Below wr.heap.size wr ((X.alloc (Obj.cells #[.slice qa qn qc] 40)).alloc (Obj.cells #[.slice ra rn rc] 40)) :=
  ⟨X.heap.size, X.heap.size + 1, qa, qn, qc, ra, rn, rc, rfl, rfl, (newA X _ _ _).1, (newA X _ _ _).2, hr.below (bal (bal (Below.refl _ _) _) _), hn, bal (bal hb _) _⟩
theorem leafQ {wr X : World} {v N : Nat} {qa ra : Option Addr} {qn qc rn rc : Nat} (hb : Below wr.heap.size wr X) (hr : Row kI X (.slice qa qn qc) (dg (v / N))) (hn : rn = (dg (v % N)).length) : ∃ p7 p8 qa' qn' qc' ra' rn' rc', Value.pointer (some ⟨X.heap.size + 1, 0, none⟩) = .pointer (some ⟨p7, 0, none⟩) ∧ Value.pointer (some ⟨X.heap.size, 0, none⟩) = .pointer (some ⟨p8, 0, none⟩) ∧ ((X.alloc (Obj.cells #[.slice ra rn rc] 40)).alloc (Obj.cells #[.slice qa qn qc] 40)).heap[p7]? = some (.cells #[.slice qa' qn' qc'] 40 (0, 0)) ∧ ((X.alloc (Obj.cells #[.slice ra rn rc] 40)).alloc (Obj.cells #[.slice qa qn qc] 40)).heap[p8]? = some (.cells #[.slice ra' rn' rc'] 40 (0, 0)) ∧ Row kI ((X.alloc (Obj.cells #[.slice ra rn rc] 40)).alloc (Obj.cells #[.slice qa qn qc] 40)) (.slice qa' qn' qc') (dg (v / N)) ∧ rn' = (dg (v % N)).length ∧ Below wr.heap.size wr ((X.alloc (Obj.cells #[.slice ra rn rc] 40)).alloc (Obj.cells #[.slice qa qn qc] 40)) :=
  ⟨X.heap.size + 1, X.heap.size, qa, qn, qc, ra, rn, rc, rfl, rfl, (newA X _ _ _).2, (newA X _ _ _).1, hr.below (bal (bal (Below.refl _ _) _) _), hn, bal (bal hb _) _⟩
theorem leafR {p : Nat} {wr X : World} {v N : Nat} {qa ra : Option Addr} {qn qc rn rc : Nat} (hb : Below wr.heap.size wr X) (hr : Row kI X (.slice qa qn qc) (dg (v / N))) (hn : rn = (dg (v % N)).length) (h : Bx wr X p) : ∃ p7 p8 qa' qn' qc' ra' rn' rc', Value.pointer (some ⟨X.heap.size, 0, none⟩) = .pointer (some ⟨p7, 0, none⟩) ∧ Value.pointer (some ⟨p, 0, none⟩) = .pointer (some ⟨p8, 0, none⟩) ∧ ((X.alloc (Obj.cells #[.slice qa qn qc] 40)).setCell ⟨p, 0, none⟩ (.slice ra rn rc)).heap[p7]? = some (.cells #[.slice qa' qn' qc'] 40 (0, 0)) ∧ ((X.alloc (Obj.cells #[.slice qa qn qc] 40)).setCell ⟨p, 0, none⟩ (.slice ra rn rc)).heap[p8]? = some (.cells #[.slice ra' rn' rc'] 40 (0, 0)) ∧ Row kI ((X.alloc (Obj.cells #[.slice qa qn qc] 40)).setCell ⟨p, 0, none⟩ (.slice ra rn rc)) (.slice qa' qn' qc') (dg (v / N)) ∧ rn' = (dg (v % N)).length ∧ Below wr.heap.size wr ((X.alloc (Obj.cells #[.slice qa qn qc] 40)).setCell ⟨p, 0, none⟩ (.slice ra rn rc)) :=
  have q := ((bal (Below.refl X.heap.size X) (Obj.cells #[.slice qa qn qc] 40)).block p h.lt).trans h.box
  ⟨X.heap.size, p, qa, qn, qc, ra, rn, rc, rfl, rfl, set_heap (heap_alloc_new _ _) _ (Ne.symm (Nat.ne_of_lt h.lt)), set1 q _, row_set q (hr.below (bal (Below.refl _ _) _)) _, hn, (bal hb _).setCell (p := ⟨p, 0, none⟩) h.ge _⟩
theorem Sf.at {B m : Nat} {W : World} {g n c : Nat} {xs : List Su} (h : Sf B W (.slice (some ⟨g, 0, none⟩) n c) m xs) (i : Nat) (hi : i < m) : W.cell? ⟨g, i * 2, none⟩ = some (.string (sufT i)) ∧ W.cell? ⟨g, i * 2 + 1, none⟩ = some (.slice (xs.getD i kS.z).a (xs.getD i kS.z).n (xs.getD i kS.z).c) := by
  obtain ⟨b', off', e', hcc⟩ := (h.own.row okS).at i (by rw [h.len]; exact hi)
  simp only [Option.some.injEq, Addr.mk.injEq, and_true] at e'
  obtain ⟨rfl, rfl⟩ := e'
  have t0 := hcc 0 _ rfl
  have t1 := hcc 1 _ rfl
  rw [Nat.zero_add] at t0 t1
  rw [h.tx i hi] at t0
  exact ⟨t0, t1⟩
theorem sufN_lt (j : Nat) : sufN j < 10 ^ 19 := by unfold sufN; split <;> decide
theorem sufT_two (j : Nat) : (sufT j).size ≤ 2 := by unfold sufT; split <;> decide
end Lg
end Go.Proofs.YtjegjpdeclgegaaDoor
