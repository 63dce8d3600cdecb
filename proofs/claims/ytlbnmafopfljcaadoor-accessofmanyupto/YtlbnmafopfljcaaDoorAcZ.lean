/-
  Leave, exactly.
-/
import Derived.Test.YtlbnmafopfljcaaDoorAcQ
namespace Go.Proofs.YtlbnmafopfljcaaDoor
open Go.RowKit
namespace Ac
theorem InD.del {D : DataW Unit} {x : Bd} {p q : ByteArray} (h1 : p.size ≤ maxLen) (h2 : q.size ≤ maxLen) : InD (D.del (kl p q)) x ↔ InD D x ∧ ¬ (x.p = p ∧ x.n = q) := by
  constructor
  · intro h
    have hne : kl x.p x.n ≠ kl p q := fun e => by
      have a := h.1 (.map [])
      have b := h.1 (.lit (.bool true))
      rw [e, Maps.atKey_del_same] at a b
      rw [← a] at b
      simp at b
    refine ⟨⟨fun zd => by rw [← Maps.atKey_del_other hne]; exact h.1 zd, h.2⟩, fun e => hne (by rw [e.1, e.2])⟩
  · rintro ⟨h, hn⟩
    have hne : kl x.p x.n ≠ kl p q := fun e => hn (kl_inj e h.2.1 h.2.2 h1 h2)
    exact ⟨fun zd => by rw [Maps.atKey_del_other hne]; exact h.1 zd, h.2⟩
/-- So many bindings lie at p. -/
def Cn (D : DataW Unit) (p : ByteArray) (k : Nat) : Prop := ∃ ll : List Bd, (ll.Pairwise fun a b => kl a.p a.n ≠ kl b.p b.n) ∧ (∀ x, x ∈ ll ↔ InD D x ∧ x.p = p) ∧ k = ll.length
structure Cp (D : DataW Unit) (p : ByteArray) (left : Lit → Bool) (ll : List Bd) : Prop where
  m : ∀ x, x ∈ ll ↔ InD D x ∧ x.p = p ∧ left (kl x.p x.n) = false
  d : ll.Pairwise fun a b => kl a.p a.n ≠ kl b.p b.n
variable {D : DataW Unit} {p : ByteArray} {left : Lit → Bool} {ll : List Bd}
theorem InD.same {x y : Bd} (hx : InD D x) (hy : InD D y) (e : kl x.p x.n = kl y.p y.n) : x = y := by
  have q := hx.1 (.map [])
  rw [e, hy.1] at q
  obtain ⟨q1, q2⟩ := eR_inj q
  obtain ⟨r1, r2⟩ := kl_inj e hx.2.1 hx.2.2 hy.2.1 hy.2.2
  cases x; cases y
  simp only at q1 q2 r1 r2
  rw [q1, q2, r1, r2]
theorem Cp.start : Cp D p (Maps.has D) [] := ⟨fun x => by
  refine ⟨fun h => by simp at h, fun h => ?_⟩
  rw [Maps.has_true_of_atKey h.1.1] at h
  simp at h, List.Pairwise.nil⟩
theorem Cp.pass (h : Cp D p left ll) {x : Bd} (hx : InD D x) (hp : x.p ≠ p) : Cp D p (fun z => left z && !z.sameKey (kl x.p x.n)) ll := ⟨fun y => by
  rw [h.m y]
  refine ⟨fun ⟨a, b, c⟩ => ⟨a, b, by simp [c]⟩, fun ⟨a, b, c⟩ => ⟨a, b, ?_⟩⟩
  by_cases e : kl y.p y.n = kl x.p x.n
  · rw [a.same hx e] at b
    exact absurd b hp
  · simpa [Maps.sameKey_ne e] using c, h.d⟩
theorem Cp.take {x : Bd} (h : Cp D x.p left ll) (hx : InD D x) (hl : left (kl x.p x.n) = true) : Cp D x.p (fun z => left z && !z.sameKey (kl x.p x.n)) (ll ++ [x]) := ⟨fun y => by
  rw [List.mem_append, List.mem_singleton, h.m y]
  constructor
  · rintro (⟨a, b, c⟩ | rfl)
    · exact ⟨a, b, by simp [c]⟩
    · exact ⟨hx, rfl, by simp [same_kl]⟩
  · rintro ⟨a, b, c⟩
    by_cases e : kl y.p y.n = kl x.p x.n
    · exact Or.inr (a.same hx e)
    · exact Or.inl ⟨a, b, by simpa [Maps.sameKey_ne e] using c⟩, by
  rw [List.pairwise_append]
  refine ⟨h.d, List.pairwise_singleton _ _, fun a ha b hb => ?_⟩
  rw [List.mem_singleton] at hb
  subst hb
  intro e
  have q := ((h.m a).1 ha).2.2
  rw [e, hl] at q
  simp at q⟩
theorem nodup_kl {ll : List Bd} (h : ll.Pairwise fun a b => kl a.p a.n ≠ kl b.p b.n) : ll.Nodup := h.imp fun h e => h (by rw [e])
theorem len_le {α : Type} : ∀ {l1 l2 : List α}, l1.Nodup → (∀ x ∈ l1, x ∈ l2) → l1.length ≤ l2.length
  | [], _, _, _ => by simp
  | x :: r, l2, hn, hs => by
    obtain ⟨s, t, rfl⟩ := List.append_of_mem (hs x (by simp))
    rw [List.nodup_cons] at hn
    have := len_le (l2 := s ++ t) hn.2 (fun y hy => by
      have q := hs y (by simp [hy])
      rw [List.mem_append, List.mem_cons] at q
      rw [List.mem_append]
      rcases q with q | rfl | q
      · exact Or.inl q
      · exact absurd hy hn.1
      · exact Or.inr q)
    simp only [List.length_append, List.length_cons] at this ⊢
    omega
theorem Cn.one {k k' : Nat} (h : Cn D p k) (h' : Cn D p k') : k = k' := by
  obtain ⟨l1, d1, m1, rfl⟩ := h
  obtain ⟨l2, d2, m2, rfl⟩ := h'
  exact Nat.le_antisymm (len_le (nodup_kl d1) fun x hx => (m2 x).2 ((m1 x).1 hx)) (len_le (nodup_kl d2) fun x hx => (m1 x).2 ((m2 x).1 hx))
/-- Of D the bindings at p were taken away whose keys have come. -/
structure Lv (D : DataW Unit) (p : ByteArray) (D1 : DataW Unit) (left : Lit → Bool) (k : Nat) : Prop where
  m : ∀ x, InD D1 x ↔ InD D x ∧ (x.p ≠ p ∨ left (kl x.p x.n) = true)
  s : Maps.size D1 + k = Maps.size D
  c : ∃ ll, Cp D p left ll ∧ k = ll.length
variable {D1 : DataW Unit} {k : Nat}
theorem Lv.start : Lv D p D (Maps.has D) 0 := ⟨fun _ => ⟨fun h => ⟨h, Or.inr (Maps.has_true_of_atKey h.1)⟩, fun h => h.1⟩, rfl, [], Cp.start, rfl⟩
theorem Lv.pass (h : Lv D p D1 left k) {x : Bd} (hx : InD D1 x) (hp : x.p ≠ p) : Lv D p D1 (fun z => left z && !z.sameKey (kl x.p x.n)) k := ⟨fun y => by
  rw [h.m y]
  refine ⟨fun ⟨a, b⟩ => ⟨a, ?_⟩, fun ⟨a, b⟩ => ⟨a, b.imp id (fun q => by simp at q; exact q.1)⟩⟩
  by_cases e : kl y.p y.n = kl x.p x.n
  · exact Or.inl (by rw [(kl_inj e a.2.1 a.2.2 hx.2.1 hx.2.2).1]; exact hp)
  · exact b.imp id (fun q => by simp [q, Maps.sameKey_ne e]), h.s, by
  obtain ⟨ll, hc, e⟩ := h.c
  exact ⟨ll, hc.pass ((h.m x).1 hx).1 hp, e⟩⟩
theorem Lv.take {x : Bd} (h : Lv D x.p D1 left k) (hx : InD D1 x) (ht : Maps.Tidy D1) : Lv D x.p (D1.del (kl x.p x.n)) (fun z => left z && !z.sameKey (kl x.p x.n)) (k + 1) := ⟨fun y => by
  rw [InD.del hx.2.1 hx.2.2, h.m y]
  constructor
  · rintro ⟨⟨a, b⟩, c⟩
    refine ⟨a, b.imp id (fun q => ?_)⟩
    have e : kl y.p y.n ≠ kl x.p x.n := fun e => c (kl_inj e a.2.1 a.2.2 hx.2.1 hx.2.2)
    simp [q, Maps.sameKey_ne e]
  · rintro ⟨a, b⟩
    refine ⟨⟨a, b.imp id (fun q => by simp at q; exact q.1)⟩, fun c => ?_⟩
    rcases b with b | b
    · exact b c.1
    · rw [c.1, c.2, same_kl] at b
      simp at b, by
  have q := Maps.size_del (k := kl x.p x.n) ht
  have := h.s
  rw [Maps.has_true_of_atKey hx.1] at q
  simp at q
  omega, by
  obtain ⟨ll, hc, e⟩ := h.c
  exact ⟨_, hc.take ((h.m x).1 hx).1 (((h.m x).1 hx).2.resolve_left (fun q => q rfl)), by simp [e]⟩⟩
variable {w w' : World} {t b n : Nat}
end Ac
end Go.Proofs.YtlbnmafopfljcaaDoor
