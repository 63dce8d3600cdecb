/-
  An object in a box of the call's own, whose parts are laid anew.
-/
import Derived.Test.YtibjmmfodelhjaaDoorScW
import Derived.Test.YtibjmmfodelhjaaDoorLawApart
namespace Go.Proofs.YtibjmmfodelhjaaDoor
open Go.RowKit
def nonP : Pr := ⟨⟨#[110, 111, 110, 101]⟩, ⟨none, 0, 0⟩, ⟨none, 0, 0⟩⟩
theorem nst_none (B : Nat) (w : World) : Nst B w [nonP] [noneP] := ⟨rfl, fun k hk => by
  obtain rfl : k = 0 := by simp at hk; omega
  exact ⟨rfl, OwnR.nil _ _ _, OwnR.nil _ _ _⟩⟩
/-- An object in a box of the call's own. -/
structure Bx (B g : Nat) (cs : Array Value) (v : Value) (rs : List Pr) (ps : List Pt) (w : World) : Prop where
  o : w.heap[g]? = some (.cells cs 25 (0, 0))
  p : OwnR kPt B w v rs
  n : Nst B w rs ps
  s : B ≤ w.heap.size
theorem Bx.below {B g : Nat} {cs : Array Value} {v : Value} {rs : List Pr} {ps : List Pt} {w w' : World} (h : Bx B g cs v rs ps w) (hb : Below w.heap.size w w') : Bx B g cs v rs ps w' :=
  ⟨by rw [hb.block _ (Array.getElem?_eq_some_iff.1 h.o).1]; exact h.o, h.p.below hb, h.n.below hb, Nat.le_trans h.s hb.size⟩
theorem Bx.grow {B g : Nat} {cs : Array Value} {v : Value} {rs : List Pr} {ps : List Pt} {w w' : World} (h : Bx B g cs v rs ps w) (hg : w.grownBy w' v.ownBlock) : w'.heap[g]? = some (.cells cs 25 (0, 0)) := by
  refine (hg.block _ (Array.getElem?_eq_some_iff.1 h.o).1 (fun e => ?_)).trans h.o
  obtain ⟨cs', mk, q⟩ := h.p.ty _ e.symm
  rw [h.o] at q
  simp only [Option.some.injEq, Obj.cells.injEq] at q
  exact absurd q.2.1 (by decide)
/-- The parts are laid anew. -/
theorem Bx.put {B g : Nat} {cs : Array Value} {v : Value} {rs ss : List Pr} {ps qs : List Pt} {w w' : World} {u : Value} (h : Bx B g cs v rs ps w) (hg : w.grownBy w' v.ownBlock) (hq : Nst B w ss qs) (hu : OwnR kPt B w' u (rs ++ ss)) (hB : B ≤ g) : Bx B g (cs.setIfInBounds 5 u) u (rs ++ ss) (ps ++ qs) (w'.setCell ⟨g, 5, none⟩ u) ∧ Below B w (w'.setCell ⟨g, 5, none⟩ u) := by
  have o' := h.grow hg
  have gs := grown_set w' g 5 u
  have bw : Below B w w' := grown_belowR hg h.p h.s
  refine ⟨⟨heap_setCell_same _ _ _ _ _ _ o', hu.grownT gs o' (by decide), ((h.n.app hq).grown h.p hg).grownT gs o' (by decide), Nat.le_trans h.s ((bw.setCell (p := ⟨g, 5, none⟩) hB u).size)⟩, bw.setCell (p := ⟨g, 5, none⟩) hB u⟩
end Go.Proofs.YtibjmmfodelhjaaDoor
