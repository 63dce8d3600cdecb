/-
  Texts as paths; what Reach tells.
-/
import Derived.Test.YthdofbjijpghfaaGreatDoorAjC
import Derived.Test.YthdofbjijpghfaaGreatDoorAjF
namespace Go.Proofs.YthdofbjijpghfaaGreatDoor
open Go.RowKit Go.Sort Go.Lib
namespace Ac
/-- Texts that are paths all. -/
theorem asPaths : ∀ (xs : List ByteArray), (∀ x ∈ xs, (L.splitO x).isSome = true) → ∃ ps : List Pt, ps.map (·.1) = xs
  | [], _ => ⟨[], rfl⟩
  | x :: r, h => by
    obtain ⟨ps, hp⟩ := asPaths r fun y hy => h y (by simp [hy])
    exact ⟨Pt.mk x (h x (by simp)) :: ps, by rw [List.map_cons, hp]; rfl⟩
theorem cells_paths (ps : List Pt) : cellsR kPt ps = cellsR kS (ps.map (·.1)) := by
  unfold cellsR
  induction ps with
  | nil => rfl
  | cons p r ih => rw [List.flatMap_cons, List.map_cons, List.flatMap_cons, ih]; rfl
theorem own_paths {B : Nat} {w : World} {v : Value} {ps : List Pt} (h : OwnR kS B w v (ps.map (·.1))) : OwnR kPt B w v ps := by
  unfold OwnR at h ⊢
  rw [cells_paths]
  rw [List.length_map] at h
  exact h
theorem row_texts {w : World} {v : Value} {ps : List Pt} (h : Row kPt w v ps) : Row kS w v (ps.map (·.1)) := by
  obtain ⟨a, cap, e, h1, h2, h0, h3⟩ := h
  refine ⟨a, cap, by rw [List.length_map]; exact e, by rw [List.length_map]; exact h1, h2, h0, fun k hk => ?_⟩
  rw [List.length_map] at hk
  obtain ⟨b, off, ea, hc⟩ := h3 k hk
  refine ⟨b, off, ea, fun j y hy => hc j y ?_⟩
  rw [← hy]
  simp only [List.getD_eq_getElem?_getD, List.getElem?_map, List.getElem?_eq_getElem hk, Option.map_some, Option.getD_some]
  rfl
/-- What Reach tells: paths, none below another; each at which a binding gives it, and below one of them all at which one does. -/
structure Rc (D : DataW Unit) (u : ByteArray) (v : Int) (T : List Pt) : Prop where
  m : ∀ t ∈ T, ∃ x, InD D x ∧ isB x.s x.v u v = true ∧ x.p = t.1
  a : ∀ x, InD D x → isB x.s x.v u v = true → ∃ t ∈ T, L.underB x.p t.1 = true
  d : T.Pairwise fun x y => L.underB x.1 y.1 = false ∧ L.underB y.1 x.1 = false
  r : RisP T
def NoR (u : ByteArray) (v : Int) : Prop := ¬ (u = rootT ∧ vbB v = true)
/-- What Reach tells of any question: of the root who asks for a verb the topmost. -/
def RcT (D : DataW Unit) (u : ByteArray) (v : Int) (T : List Pt) : Prop := (u = rootT ∧ vbB v = true ∧ T = [Pt.z]) ∨ (NoR u v ∧ Rc D u v T)
end Ac
end Go.Proofs.YthdofbjijpghfaaGreatDoor
