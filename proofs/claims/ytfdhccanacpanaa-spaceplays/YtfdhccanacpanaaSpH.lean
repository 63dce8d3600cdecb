/-
  What the laws over scripts share.
-/
import Derived.Test.YtfdhccanacpanaaSpG
namespace Go.Proofs.Ytfdhccanacpanaa
open Go.RowKit
variable {B : Nat} {w : World} {d sb f : Nat} {l : List UInt8}
/-- A row of numbers is none of the space's. -/
theorem OwnI.sp {B' : Nat} {w' : World} {v : Value} {t : List Int} (o : OwnI B' w v t) (h : Sp B w d sb f l) (K : Kept (fun k => k = sb) w w') : OwnI B' w' v t := by
  refine o.kept K fun k hk e => ?_
  obtain ⟨cur, hc⟩ := o.row hk
  subst e
  rw [h.sts] at hc
  simp at hc
theorem Sp.grown {B' : Nat} {w' : World} {v : Value} {t : List Int} (h : Sp B w d sb f l) (o : OwnI B' w v t) (hg : w.grownBy w' v.ownBlock) : Sp B w' d sb f l := by
  refine h.kept (grown_kept hg) (fun e => ?_) (fun e => ?_)
  · obtain ⟨cur, hc⟩ := o.row e.symm
    rw [h.self] at hc
    simp at hc
  · obtain ⟨cur, hc⟩ := o.row e.symm
    rw [h.sts] at hc
    simp at hc
theorem Sp.trans {w0 w' : World} (h : Sp w0.heap.size w d sb f l) (b : Below w0.heap.size w0 w) (K : Kept (fun k => k = sb) w w') : Below w0.heap.size w0 w' :=
  b.trans (K.below b.size fun x hx => by rw [hx]; exact h.b2)
/-- A step of a script, in memory. -/
theorem OpsS.at {w : World} {v : Value} {t : List OpS} (H : OpsS w v t) (k : Nat) (x : OpS) (hx : t[k]? = some x) :
    ∃ b off cap, v = .slice (some ⟨b, off, none⟩) t.length cap ∧ t.length ≤ cap ∧ cap ≤ 9223372036854775807 ∧ w.rangeAt b (off + k * 3) x.cells := by
  obtain ⟨_, a, cap, e, h1, h2, h3⟩ := H
  obtain ⟨b, off, ea, hc⟩ := h3 (fun e => by rw [e] at hx; simp at hx)
  exact ⟨b, off, cap, by rw [e, ea], h1, by unfold maxLen at h2; omega, hc k x hx⟩
theorem OpsS.len {w : World} {v : Value} {t : List OpS} (H : OpsS w v t) : ∃ a cap, v = .slice a t.length cap ∧ t.length ≤ cap ∧ cap ≤ 9223372036854775807 := by
  obtain ⟨_, a, cap, e, h1, h2, h3⟩ := H
  exact ⟨a, cap, e, h1, by unfold maxLen at h2; omega⟩
theorem mod64 (n : Int) : ((n % 64).toNat) < 64 := by omega
theorem opS_sts (n : Nat) (t : List Bool) : Sts (opS n t) := mkS_sts _ _ _
end Go.Proofs.Ytfdhccanacpanaa
