/-
  ONE BYTE MORE on a slice of the own call own.
-/
import Derived.Test.YtfmgegkeidhdfaaWalk8
namespace Go.Proofs.Ytfmgegkeidhdfaa
open Go.RowKit

/-- One byte more on a slice of the own call own. -/
theorem own_more {B : Nat} {w' : World} {v' : Value} {l : List (BitVec 8)} {c : BitVec 8} (h : w'.ownsRow B 5 1 v' (l.length + 1) (cells8 l ++ [.int .u8 (c8 c)])) : Own B w' v' (l ++ [c]) := by
  have e : cells8 (l ++ [c]) = cells8 l ++ [.int .u8 (c8 c)] := by simp [cells8]
  show w'.ownsRow _ _ _ _ _ _
  rw [e, List.length_append]; exact h
theorem below_more {B : Nat} {w0 w w' : World} {v : Value} {l : List (BitVec 8)} {o : Obj} (hb : Below B w0 w) (ho : Own B w v l) (hB : B ≤ w.heap.size) (hg : (w.alloc o).grownBy w' v.ownBlock) : Below B w0 w' :=
  (hb.alloc hB o).grown hg (by simp; omega) (fun k hk => (World.ownsRow.lt ho k hk).1)
theorem one_cell {w : World} {x : Value} : ∀ j v, [x][j]? = some v → (w.alloc (.cells #[x] 5)).cell? ((⟨w.heap.size, 0, none⟩ : Addr).add j) = some v := fun j v h => new_cells w #[x] j v h

end Go.Proofs.Ytfmgegkeidhdfaa
