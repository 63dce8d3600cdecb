/-
  THE LAW fixed: it stands.
-/
import Derived.Test.YtanpneahembhbaaGreatDoorKSplA
namespace Go.Proofs.YtanpneahembhbaaGreatDoor.K
open Go.RowKit
theorem strs_built (w : World) (ts : List ByteArray) (cs : Array Value) (n : Nat) (hc : cs = (ts.map Value.string).toArray) (hn : n = ts.length) (hl : ts.length ≤ maxLen) : Strs (w.alloc (.cells cs 9)) (.slice (some ⟨w.heap.size, 0, none⟩) n n) ts := by
  subst hc hn
  refine ⟨_, ts.length, rfl, Nat.le_refl _, hl, (fun h => by cases h), fun k hk => ⟨w.heap.size, 0, rfl, ?_⟩⟩
  rw [Nat.zero_add, World.cell?_alloc_new, ← Array.getElem?_toList]
  exact cellsS_at ts k hk
theorem below_built (w : World) (o : Obj) : Below w.heap.size w (w.alloc o) := (Below.refl _ w).alloc (Nat.le_refl _) _
def ab : List ByteArray := [⟨#[97]⟩, ⟨#[98]⟩]
theorem make_ab : makeR ab = (⟨#[97, 0, 1, 98, 0, 1]⟩, 0) := by decide
theorem split_ab : splitE ⟨#[97, 0, 1, 98, 0, 1]⟩ = 0 ∧ splitT ⟨#[97, 0, 1, 98, 0, 1]⟩ = ab := by
  unfold splitE splitT
  rw [split_make make_ab]
  exact ⟨rfl, rfl⟩
end Go.Proofs.YtanpneahembhbaaGreatDoor.K
