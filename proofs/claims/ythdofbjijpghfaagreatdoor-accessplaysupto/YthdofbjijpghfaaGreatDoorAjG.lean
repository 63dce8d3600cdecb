/-
  What a binding gives, by the words alone; what Why and Reach tell of it. (Pure.)
-/
import Derived.Test.YthdofbjijpghfaaGreatDoorAjD
import Derived.Test.YthdofbjijpghfaaGreatDoorAjB
import Derived.Test.YthdofbjijpghfaaGreatDoorAiA
namespace Go.Proofs.YthdofbjijpghfaaGreatDoor
open Go.RowKit
namespace Ac
/-- Does a binding give it, by the words alone? -/
def givB (x : Bd) (u : ByteArray) (v : Int) (path : ByteArray) : Bool := (x.s.toList == u.toList) && (decide (0 ≤ v) && (decide (v ≤ x.v) && L.underB path x.p))
variable {D : DataW Unit} {u path : ByteArray} {v : Int}
theorem iv_verb (h : Iv D) {x : Bd} (hx : InD D x) : 0 ≤ x.v ∧ x.v ≤ 3 := by
  have h0 := h.v x hx
  have hS : bdS x = true := by
    unfold bdR at h0
    split at h0
    · assumption
    · simp at h0
  unfold bdS inB at hS
  simp only [Bool.and_eq_true, decide_eq_true_eq] at hS
  exact hS.2.2
theorem giv_iff (h : Iv D) {x : Bd} (hx : InD D x) : givB x u v path = true ↔ isB x.s x.v u v = true ∧ x.p ∈ lineP path := by
  have hv := iv_verb h hx
  unfold givB isB vbB
  rw [line_under]
  simp only [Bool.and_eq_true, decide_eq_true_eq, and_assoc]
  constructor
  · rintro ⟨a, b, c, d⟩; exact ⟨a, b, by omega, c, d⟩
  · rintro ⟨a, b, _, c, d⟩; exact ⟨a, b, c, d⟩
/-- Of the bindings that give it none lies lower than Why's, none at its place has a lesser name. -/
theorem near_not {r : Bool × Bd} (hn : Ny D u v path r) (hr : r.1 = true) {x : Bd} (hx : InD D x) (hb : isB x.s x.v u v = true) (hl : x.p ∈ lineP path) :
    ¬ (L.splitT r.2.p).length < (L.splitT x.p).length ∧ ¬ (x.p = r.2.p ∧ x.n.data.toList < r.2.n.data.toList) := by
  obtain ⟨⟨h1, h2, h3⟩, h4⟩ := hn.y hr
  have hf := h4 x hx hb hl
  refine ⟨fun q => hf (Or.inl ?_), fun q => hf (Or.inr ⟨by rw [q.1], q.2⟩)⟩
  unfold lineP at hl h3
  cases hp : L.splitO path with
  | none => rw [hp] at hl; simp at hl
  | some ts =>
    obtain ⟨_, hg⟩ := L.splitO_some hp
    rw [hp] at hl h3
    obtain ⟨j, hj, e1⟩ := (mem_line ts _).1 hl
    obtain ⟨k, hk, e2⟩ := (mem_line ts _).1 h3
    rw [e1, e2] at q ⊢
    unfold L.splitT at q
    rw [L.splitO_good (hg.take j), L.splitO_good (hg.take k)] at q
    simp only [Option.getD_some, List.length_take] at q
    exact line_size hg (by omega) hj
theorem under_path {a b : ByteArray} (h : L.underB a b = true) : (L.splitO a).isSome = true ∧ (L.splitO b).isSome = true := by
  unfold L.underB at h
  simp only [Bool.and_eq_true] at h
  exact h.1
theorem under_trans {a b c : ByteArray} (h : L.underB a b = true) (h' : L.underB b c = true) : L.underB a c = true := by
  obtain ⟨ha, hb⟩ := under_path h
  obtain ⟨_, hc⟩ := under_path h'
  have k1 := (under_pre (Pt.mk a ha) (Pt.mk b hb)).1 h
  have k2 := (under_pre (Pt.mk b hb) (Pt.mk c hc)).1 h'
  exact (under_pre (Pt.mk a ha) (Pt.mk c hc)).2 (k2.trans k1)
theorem under_self (t : Pt) : L.underB t.1 t.1 = true := (under_pre t t).2 (List.prefix_refl _)
/-- What Reach tells lies above a path just if a binding gives it there. -/
theorem rc_above {T : List Pt} (h : Rc D u v T) : (∃ t ∈ T, L.underB path t.1 = true) ↔ ∃ x, InD D x ∧ isB x.s x.v u v = true ∧ x.p ∈ lineP path := by
  constructor
  · rintro ⟨t, ht, hu⟩
    obtain ⟨x, h1, h2, h3⟩ := h.m t ht
    exact ⟨x, h1, h2, by rw [line_under, h3]; exact hu⟩
  · rintro ⟨x, h1, h2, h3⟩
    obtain ⟨t, ht, hu⟩ := h.a x h1 h2
    exact ⟨t, ht, under_trans ((line_under _ _).1 h3) hu⟩
/-- At what Reach tells it may be done. -/
theorem rc_may {T : List Pt} (h : Rc D u v T) (hu : u ≠ rootT) {t : Pt} (ht : t ∈ T) : MayP D u v t.1 := by
  obtain ⟨x, h1, h2, h3⟩ := h.m t ht
  exact Or.inr ⟨hu, x, h1, h2, by rw [line_under, h3]; exact under_self t⟩
theorem teq_iff (a b : ByteArray) : (a.toList == b.toList) = true ↔ a = b := by
  constructor
  · intro h
    by_cases e : a = b
    · exact e
    · rw [teq_no e] at h; exact absurd h (by decide)
  · rintro rfl; exact beq_self_eq_true _
/-- A binding among those that List tells. -/
theorem li_mem {S : List Bv} (h : Li D S) {x : Bd} : InD D x ↔ ∃ y ∈ S, y.1 = x := (h.m x).symm
theorem any_giv (hI : Iv D) {S : List Bv} (h : Li D S) : (S.any fun y => givB y.1 u v path) = true ↔ ∃ x, InD D x ∧ isB x.s x.v u v = true ∧ x.p ∈ lineP path := by
  rw [List.any_eq_true]
  constructor
  · rintro ⟨y, hy, hg⟩
    have hd := (h.m y.1).1 ⟨y, hy, rfl⟩
    have := (giv_iff hI hd).1 hg
    exact ⟨y.1, hd, this.1, this.2⟩
  · rintro ⟨x, hx, h1, h2⟩
    obtain ⟨y, hy, rfl⟩ := (h.m x).2 hx
    exact ⟨y, hy, (giv_iff hI hx).2 ⟨h1, h2⟩⟩
end Ac
end Go.Proofs.YthdofbjijpghfaaGreatDoor
