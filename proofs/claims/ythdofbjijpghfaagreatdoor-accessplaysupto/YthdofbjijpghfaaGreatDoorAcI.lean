/-
  The law's play, exactly.
-/
import Derived.Test.YthdofbjijpghfaaGreatDoorAcZ
import Derived.Test.YthdofbjijpghfaaGreatDoorAcU
namespace Go.Proofs.YthdofbjijpghfaaGreatDoor
open Go.RowKit
namespace Ac
/-- What a step makes of a table. -/
def St (D : DataW Unit) (o : Sp) (D' : DataW Unit) : Prop :=
  (o.kind = 1 ∧ (bdR o.b).2 = 0 ∧ D' = D.put (kl o.b.p o.b.n) (eR o.b.s o.b.v)) ∨ (o.kind = 2 ∧ D' = D.del (kl o.p o.n)) ∨ (o.kind = 3 ∧ ∀ x, InD D' x ↔ InD D x ∧ x.p ≠ o.p) ∨ D' = D
theorem InD.put {D : DataW Unit} (hD : Maps.IsMap D) {x y : Bd} (h1 : y.p.size ≤ maxLen) (h2 : y.n.size ≤ maxLen) : InD (D.put (kl y.p y.n) (eR y.s y.v)) x ↔ x = y ∨ (InD D x ∧ ¬ (x.p = y.p ∧ x.n = y.n)) := by
  constructor
  · intro h
    by_cases e : kl x.p x.n = kl y.p y.n
    · refine Or.inl ?_
      have q := h.1 (.map [])
      rw [e, Maps.atKey_put_same hD (key_lit _ _)] at q
      obtain ⟨q1, q2⟩ := eR_inj q
      obtain ⟨r1, r2⟩ := kl_inj e h.2.1 h.2.2 h1 h2
      cases x; cases y
      simp only at q1 q2 r1 r2
      rw [q1, q2, r1, r2]
    · exact Or.inr ⟨⟨fun zd => by rw [← Maps.atKey_put_other e]; exact h.1 zd, h.2⟩, fun q => e (by rw [q.1, q.2])⟩
  · rintro (rfl | ⟨h, hn⟩)
    · exact ⟨fun zd => Maps.atKey_put_same hD (key_lit _ _) _ zd, h1, h2⟩
    · have e : kl x.p x.n ≠ kl y.p y.n := fun e => hn (kl_inj e h.2.1 h.2.2 h1 h2)
      exact ⟨fun zd => by rw [Maps.atKey_put_other e]; exact h.1 zd, h.2⟩
theorem bd_path {x : Bd} (h : (bdR x).2 = 0) : (L.splitO x.p).isSome = true := by
  unfold bdR at h
  split at h
  · rename_i hs
    unfold bdS namedB at hs
    simp only [Bool.and_eq_true, decide_eq_true_iff] at hs
    have q := hs.1.1
    unfold L.splitE at q
    split at q
    · assumption
    · omega
  · simp at h
def Sp.wh (o : Sp) : ByteArray := if o.kind = 1 then o.b.p else o.p
/-- What changes with a step: bindings at its path; one that comes is its own. -/
structure Ch (D : DataW Unit) (o : Sp) (D' : DataW Unit) : Prop where
  v : Vl D'
  i : ∀ x, InD D' x → InD D x ∨ (x.p = o.wh ∧ o.kind = 1 ∧ x.s = o.b.s)
  o : ∀ x, InD D x → InD D' x ∨ x.p = o.wh
theorem St.ch {D D' : DataW Unit} {o : Sp} (h : St D o D') (hD : Maps.IsMap D) (hf : o.Fit) (hv : Vl D) : Ch D o D' := by
  rcases h with ⟨hk, h0, rfl⟩ | ⟨hk, rfl⟩ | ⟨hk, h⟩ | rfl
  · have s1 : o.b.p.size ≤ maxLen := by have := hf.b.s.1; unfold maxLen; omega
    have s2 : o.b.n.size ≤ maxLen := by have := hf.b.s.2.1; unfold maxLen; omega
    have ew : o.wh = o.b.p := by unfold Sp.wh; rw [if_pos hk]
    refine ⟨fun x hx => ?_, fun x hx => ?_, fun x hx => ?_⟩
    · rcases (InD.put hD s1 s2).1 hx with rfl | q
      · exact bd_path h0
      · exact hv x q.1
    · rcases (InD.put hD s1 s2).1 hx with rfl | q
      · exact Or.inr ⟨ew.symm, hk, rfl⟩
      · exact Or.inl q.1
    · by_cases e : x.p = o.b.p ∧ x.n = o.b.n
      · exact Or.inr (by rw [ew]; exact e.1)
      · exact Or.inl ((InD.put hD s1 s2).2 (Or.inr ⟨hx, e⟩))
  · have s1 : o.p.size ≤ maxLen := by have := hf.p; unfold maxLen; omega
    have s2 : o.n.size ≤ maxLen := by have := hf.n; unfold maxLen; omega
    have ew : o.wh = o.p := by unfold Sp.wh; rw [if_neg (by omega)]
    refine ⟨fun x hx => hv x ((InD.del s1 s2).1 hx).1, fun x hx => Or.inl ((InD.del s1 s2).1 hx).1, fun x hx => ?_⟩
    by_cases e : x.p = o.p ∧ x.n = o.n
    · exact Or.inr (by rw [ew]; exact e.1)
    · exact Or.inl ((InD.del s1 s2).2 ⟨hx, e⟩)
  · have ew : o.wh = o.p := by unfold Sp.wh; rw [if_neg (by omega)]
    refine ⟨fun x hx => hv x ((h x).1 hx).1, fun x hx => Or.inl ((h x).1 hx).1, fun x hx => ?_⟩
    by_cases e : x.p = o.p
    · exact Or.inr (by rw [ew]; exact e)
    · exact Or.inl ((h x).2 ⟨hx, e⟩)
  · exact ⟨hv, fun x hx => Or.inl hx, fun x hx => Or.inl hx⟩
theorem vl_start : Vl D2 := fun x hx => by
  have q := (InD.del (x := x) (D := D1) (p := x0.p) (q := x0.n) (by decide) (by decide)).1 hx
  rcases (InD.put (x := x) (y := x0) Maps.isMap_empty (by decide) (by decide)).1 q.1 with rfl | r
  · exact absurd ⟨rfl, rfl⟩ q.2
  · have := r.1.1 (.lit (.bool true))
    have e := r.1.1 (.map [])
    have f : ∀ z : DataW Unit, (DataW.map [] : DataW Unit).atKey (kl x.p x.n) z = z := fun z => rfl
    rw [f] at this e
    rw [← e] at this
    simp at this
variable {w w' : World} {t b n : Nat} {D : DataW Unit}
end Ac
end Go.Proofs.YthdofbjijpghfaaGreatDoor
