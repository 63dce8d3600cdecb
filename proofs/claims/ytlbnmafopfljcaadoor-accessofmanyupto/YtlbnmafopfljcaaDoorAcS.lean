/-
  Set, Drop, Leave.
-/
import Derived.Test.YtlbnmafopfljcaaDoorAcL
namespace Go.Proofs.YtlbnmafopfljcaaDoor
open Go.RowKit
namespace Ac
/-- The table, with the package's variable. -/
structure Ta (w : World) (t b n : Nat) (D : DataW Unit) : Prop where
  tb : Tb w t b n D
  hm : L.HasM w
variable {w w' : World} {t b n : Nat} {D D' : DataW Unit}
theorem hm_kept (hm : L.HasM w) (hk : Kept (fun y => y = b) w w') (hb : ∃ es c, w.heap[b]? = some (.map es c)) : L.HasM w' := by
  obtain ⟨m, hc⟩ := hm
  refine ⟨m, (World.cell?_of_block (hk.block _ (block_lt_of_cell hc) (fun e => ?_))).trans hc⟩
  obtain ⟨es, c, hb⟩ := hb
  have e' : w.heap[0]? = some (.map es c) := by rw [← hb]; exact congrArg (fun x => w.heap[x]?) e
  simp [World.cell?, e'] at hc
theorem Tb.map (h : Tb w t b n D) : ∃ es c, w.heap[b]? = some (.map es c) := by
  obtain ⟨es, c, hb, _⟩ := h.m
  exact ⟨es, c, hb⟩
theorem Ta.below (h : Ta w t b n D) (hb : Below w.heap.size w w') : Ta w' t b n D := ⟨h.tb.below hb, h.hm.below hb⟩
theorem bd_codes (x : Bd) : (bdR x).2 = 0 ∨ (bdR x).2 = 23 ∨ (bdR x).2 = 130 := by
  unfold bdR outR
  split
  · split
    · exact Or.inl rfl
    · exact Or.inr (Or.inl rfl)
  · exact Or.inr (Or.inr rfl)
/-- A table whose map is gone through. -/
structure Rg (w0 : World) (t b r n : Nat) (left : Lit → Bool) (cnt : Nat) (w : World) : Prop where
  t : w.heap[t]? = some (.cells #[.map (some b)] 44 (0, 0))
  m : ∃ D, w.ranges Tryd.prog 46 rR b r n D left cnt
  hm : L.HasM w
  k : Kept (fun y => y = b) w0 w
theorem Rg.cell {w0 : World} {r cnt : Nat} {left : Lit → Bool} (h : Rg w0 t b r n left cnt w) : w.cell? ⟨t, 0, none⟩ = some (.map (some b)) := by rw [cell_of_row w t 0 _ _ _ h.t]; rfl
end Ac
end Go.Proofs.YtlbnmafopfljcaaDoor
