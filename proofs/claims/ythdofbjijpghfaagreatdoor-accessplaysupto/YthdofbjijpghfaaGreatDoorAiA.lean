/-
  What a script keeps: every binding stands, at most sixteen at a path.
-/
import Derived.Test.YthdofbjijpghfaaGreatDoorAcC
namespace Go.Proofs.YthdofbjijpghfaaGreatDoor
open Go.RowKit
namespace Ac
theorem bd_fit {x : Bd} (h : (bdR x).2 = 0) : x.Fit ∧ x.p.size ≤ 64 ∧ x.n.size ≤ 32 := by
  obtain ⟨p, n, s, v⟩ := x
  obtain ⟨ts, hts⟩ := Option.isSome_iff_exists.1 (bd_path h)
  simp only at hts
  obtain ⟨hp, hg⟩ := L.splitO_some hts
  have hps : p.size ≤ 64 := by rw [hp, L.pth_size]; exact hg.2.2
  have hS : bdS ⟨p, n, s, v⟩ = true := by
    unfold bdR at h
    split at h
    · assumption
    · simp at h
  unfold bdS namedB inB at hS
  simp only [Bool.and_eq_true, decide_eq_true_eq] at hS
  obtain ⟨⟨-, hn⟩, hs, h0, h3⟩ := hS
  unfold L.nameB at hn hs
  simp only [Bool.and_eq_true, decide_eq_true_eq] at hn hs
  have n1 := hn.1.2
  have s1 := hs.1.2
  refine ⟨⟨⟨?_, ?_, ?_⟩, ?_, ?_⟩, hps, n1⟩ <;> simp only <;> omega
theorem bd_max {x : Bd} (h : (bdR x).2 = 0) : x.p.size ≤ maxLen ∧ x.n.size ≤ maxLen := by
  have := bd_fit h
  unfold maxLen
  omega
/-- What a script keeps. -/
structure Iv (D : DataW Unit) : Prop where
  v : ∀ x, InD D x → (bdR x).2 = 0
  c : ∀ p k, Cn D p k → k ≤ 16
variable {D D' : DataW Unit}
theorem Iv.vl (h : Iv D) : Vl D := fun x hx => bd_path (h.v x hx)
theorem Iv.start : Iv D2 := ⟨fun x hx => (in_D2 hx).elim, fun p k ⟨ll, _, hm, hk⟩ => by
  cases ll with
  | nil => rw [hk]; simp
  | cons a r => exact (in_D2 ((hm a).1 (by simp)).1).elim⟩
theorem Iv.put (h : Iv D) (hD : Maps.IsMap D) {x : Bd} (h0 : (bdR x).2 = 0) (hc : (∃ s v, InD D ⟨x.p, x.n, s, v⟩) ∨ ((¬ ∃ s v, InD D ⟨x.p, x.n, s, v⟩) ∧ ∃ k, Cn D x.p k ∧ k < 16)) : Iv (D.put (kl x.p x.n) (eR x.s x.v)) := by
  have hM := bd_max h0
  have key : ∀ y, InD (D.put (kl x.p x.n) (eR x.s x.v)) y ↔ y = x ∨ (InD D y ∧ ¬ (y.p = x.p ∧ y.n = x.n)) := fun y => InD.put hD hM.1 hM.2
  refine ⟨fun y hy => ?_, ?_⟩
  · rcases (key y).1 hy with rfl | q
    · exact h0
    · exact h.v y q.1
  · rintro p k ⟨ll, hd, hm, rfl⟩
    by_cases hp : x.p = p
    · subst hp
      have hl : ∀ y ∈ ll, y.p = x.p ∧ (y = x ∨ InD D y ∧ y.n ≠ x.n) := fun y hy => by
        obtain ⟨a, b⟩ := (hm y).1 hy
        refine ⟨b, ?_⟩
        rcases (key y).1 a with c | c
        · exact .inl c
        · exact .inr ⟨c.1, fun e => c.2 ⟨b, e⟩⟩
      have hlen : ll.length ≤ (x :: ll.filter (fun y => decide (y.n ≠ x.n))).length := len_le (nodup_kl hd) fun y hy => by
        rcases (hl y hy).2 with c | c
        · rw [c]; simp
        · exact List.mem_cons_of_mem _ (List.mem_filter.2 ⟨hy, decide_eq_true c.2⟩)
      rw [List.length_cons] at hlen
      have hf : (ll.filter (fun y => decide (y.n ≠ x.n))).Pairwise (fun a b => kl a.p a.n ≠ kl b.p b.n) := hd.filter _
      have hin : ∀ y, y ∈ ll.filter (fun y => decide (y.n ≠ x.n)) ↔ (InD D y ∧ y.p = x.p) ∧ y.n ≠ x.n := fun y => by
        rw [List.mem_filter, decide_eq_true_eq]
        constructor
        · rintro ⟨a, b⟩
          rcases (hl y a).2 with c | c
          · exact absurd (by rw [c]) b
          · exact ⟨⟨c.1, (hl y a).1⟩, b⟩
        · rintro ⟨⟨a, b⟩, c⟩
          exact ⟨(hm y).2 ⟨(key y).2 (.inr ⟨a, fun q => c q.2⟩), b⟩, c⟩
      rcases hc with ⟨s, v, hx⟩ | ⟨hno, k0, hk0, hk1⟩
      · have := h.c x.p ((⟨x.p, x.n, s, v⟩ : Bd) :: ll.filter (fun y => decide (y.n ≠ x.n))).length ⟨_, List.pairwise_cons.2 ⟨fun y hy e => ?_, hf⟩, fun y => ?_, rfl⟩
        · rw [List.length_cons] at this; omega
        · have q := (hin y).1 hy
          exact q.2 (kl_inj e hM.1 hM.2 q.1.1.2.1 q.1.1.2.2).2.symm
        · rw [List.mem_cons, hin]
          constructor
          · rintro (rfl | c)
            · exact ⟨hx, rfl⟩
            · exact c.1
          · rintro ⟨a, b⟩
            by_cases e : y.n = x.n
            · exact .inl (InD.same a hx (by show kl y.p y.n = kl x.p x.n; rw [b, e]))
            · exact .inr ⟨⟨a, b⟩, e⟩
      · have := Cn.one hk0 ⟨_, hf, fun y => ?_, rfl⟩
        · omega
        · rw [hin]
          exact ⟨fun q => q.1, fun q => ⟨q, fun e => hno ⟨y.s, y.v, by obtain ⟨yp, yn, ys, yv⟩ := y; simp only at q e; rw [q.2, e] at q; exact q.1⟩⟩⟩
    · refine h.c p ll.length ⟨ll, hd, fun y => ?_, rfl⟩
      rw [hm y, key y]
      constructor
      · rintro ⟨a | a, b⟩
        · exact absurd (by rw [← b, a]) hp
        · exact ⟨a.1, b⟩
      · rintro ⟨a, b⟩
        exact ⟨.inr ⟨a, fun q => hp (by rw [← q.1, b])⟩, b⟩
theorem Iv.del (h : Iv D) {p q : ByteArray} (hp : p.size ≤ maxLen) (hq : q.size ≤ maxLen) : Iv (D.del (kl p q)) := by
  have key : ∀ y, InD (D.del (kl p q)) y ↔ InD D y ∧ ¬ (y.p = p ∧ y.n = q) := fun y => InD.del hp hq
  refine ⟨fun y hy => h.v y ((key y).1 hy).1, ?_⟩
  rintro P k ⟨ll, hd, hm, rfl⟩
  by_cases c : P = p ∧ ∃ s v, InD D ⟨p, q, s, v⟩
  · obtain ⟨rfl, s, v, hx⟩ := c
    have := h.c P ((⟨P, q, s, v⟩ : Bd) :: ll).length ⟨_, List.pairwise_cons.2 ⟨fun y hy e => ?_, hd⟩, fun y => ?_, rfl⟩
    · rw [List.length_cons] at this; omega
    · have a := (hm y).1 hy
      have b := (key y).1 a.1
      exact b.2 ⟨a.2, (kl_inj e hp hq b.1.2.1 b.1.2.2).2.symm⟩
    · rw [List.mem_cons, hm y, key y]
      constructor
      · rintro (rfl | a)
        · exact ⟨hx, rfl⟩
        · exact ⟨a.1.1, a.2⟩
      · rintro ⟨a, b⟩
        by_cases e : y.n = q
        · exact .inl (InD.same a hx (by show kl y.p y.n = kl P q; rw [b, e]))
        · exact .inr ⟨⟨a, fun c => e c.2⟩, b⟩
  · refine h.c P ll.length ⟨ll, hd, fun y => ?_, rfl⟩
    rw [hm y, key y]
    constructor
    · rintro ⟨a, b⟩; exact ⟨a.1, b⟩
    · rintro ⟨a, b⟩
      refine ⟨⟨a, fun e => c ⟨by rw [← b, e.1], y.s, y.v, ?_⟩⟩, b⟩
      obtain ⟨yp, yn, ys, yv⟩ := y
      simp only at e a
      rw [e.1, e.2] at a
      exact a
theorem Iv.leave (h : Iv D) {p : ByteArray} (key : ∀ y, InD D' y ↔ InD D y ∧ y.p ≠ p) : Iv D' := by
  refine ⟨fun y hy => h.v y ((key y).1 hy).1, ?_⟩
  rintro P k ⟨ll, hd, hm, rfl⟩
  by_cases c : P = p
  · cases ll with
    | nil => simp
    | cons a r =>
      have := (hm a).1 (by simp)
      exact absurd (by rw [this.2, c]) ((key a).1 this.1).2
  · refine h.c P ll.length ⟨ll, hd, fun y => ?_, rfl⟩
    rw [hm y, key y]
    exact ⟨fun q => ⟨q.1.1, q.2⟩, fun q => ⟨⟨q.1, fun e => c (by rw [← q.2, e])⟩, q.2⟩⟩
theorem Iv.set {w : World} {t b n : Nat} (h : Iv D) (H : Ta w t b n D) {x : Bd} {r : Int} (hs : Se D x r D') : Iv D' := by
  rcases hs with ⟨-, h0, rfl, hc⟩ | ⟨-, -, rfl, -⟩ | ⟨-, -, rfl⟩
  · have hM := bd_max h0
    refine h.put H.tb.m.isMap h0 ?_
    rcases hc with c | ⟨c, k, hk⟩
    · exact .inl ((has_iff H hM.1 hM.2).1 c)
    · exact .inr ⟨fun e => by rw [(has_iff H hM.1 hM.2).2 e] at c; simp at c, k, hk⟩
  · exact h
  · exact h
theorem Iv.drop (h : Iv D) {p q : ByteArray} (hp : p.size ≤ maxLen) (hq : q.size ≤ maxLen) {r : Int} (hs : Dr D p q r D') : Iv D' := by
  rcases hs with ⟨-, -, -, rfl⟩ | ⟨-, -, -, rfl⟩ | ⟨-, -, rfl⟩
  · exact h.del hp hq
  · exact h
  · exact h
end Ac
end Go.Proofs.YthdofbjijpghfaaGreatDoor
