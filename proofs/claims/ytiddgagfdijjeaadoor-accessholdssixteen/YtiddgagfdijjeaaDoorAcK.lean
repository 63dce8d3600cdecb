/-
  The calls on a table that is told by what lies at one path, and beside it.
-/
import Derived.Test.YtiddgagfdijjeaaDoorAcC
namespace Go.Proofs.YtiddgagfdijjeaaDoor
open Go.RowKit
namespace Ac
variable {w W : World} {t b n : Nat} {P : ByteArray} {N : List Ent} {M : List Bd} {D D' : DataW Unit}
/-- The table, with all that the law keeps. -/
structure Sx (w : World) (t b n : Nat) (P : ByteArray) (N : List Ent) (M : List Bd) (W : World) : Prop where
  d : ∃ D, Ta W t b n D ∧ Tt D P N M
  be : Below w.heap.size w W
  lb : w.heap.size ≤ b
  nn : n ≤ 1000
  pv : (L.splitO P).isSome = true
  mv : ∀ x ∈ M, (L.splitO x.p).isSome = true
theorem path_size {P : ByteArray} (h : (L.splitO P).isSome = true) : P.size ≤ 64 := by
  obtain ⟨ts, hts⟩ := Option.isSome_iff_exists.1 h
  obtain ⟨rfl, hg⟩ := L.splitO_some hts
  rw [L.pth_size]; exact hg.2.2
theorem path_max {P : ByteArray} (h : (L.splitO P).isSome = true) : P.size ≤ maxLen := by have := path_size h; unfold maxLen; omega
theorem path_zero {P : ByteArray} (h : (L.splitO P).isSome = true) : L.splitE P = 0 := by unfold L.splitE; rw [if_pos h]
theorem Sx.below {W' : World} (h : Sx w t b n P N M W) (hb : Below W.heap.size W W') : Sx w t b n P N M W' := by
  obtain ⟨D, h1, h2⟩ := h.d
  exact ⟨⟨D, h1.below hb, h2⟩, h.be.trans (hb.mono h.be.size), h.lb, h.nn, h.pv, h.mv⟩
theorem Sx.hm (h : Sx w t b n P N M W) : L.HasM W := by obtain ⟨D, h1, _⟩ := h.d; exact h1.hm
theorem kept_be {W' : World} (h : Sx w t b n P N M W) (hk : Kept (fun y => y = b) W W') : Below w.heap.size w W' := h.be.trans (hk.below h.be.size (fun x e => by rw [e]; exact h.lb))
/-- A short entry that stands. -/
structure Ok (e : Ent) : Prop where
  q : L.nameB e.1 = true
  s : L.nameB e.2.1 = true
  v : 0 ≤ e.2.2 ∧ e.2.2 ≤ 3
  a : e.1.size ≤ 32
  z : e.2.1.size ≤ 32
theorem Ok.bd {e : Ent} (h : Ok e) (hP : (L.splitO P).isSome = true) : (bdR (ofE P e)).2 = 0 := bd_ok hP h.q h.s h.v h.a h.z
theorem Ok.fit {e : Ent} (h : Ok e) (hP : (L.splitO P).isSome = true) : (ofE P e).Fit := by
  have := path_size hP
  have h1 := h.a
  have h2 := h.z
  have h3 := h.v
  exact ⟨⟨by show P.size ≤ _; omega, by show e.1.size ≤ _; omega, by show e.2.1.size ≤ _; omega⟩, by show _ ≤ e.2.2; omega, by show e.2.2 ≤ _; omega⟩
theorem sx_set (e : Ent) (h : Sx w t b n P N M W) (he : Ok e) (hn : n < 1000) (hy : (N.any (fun y => decide (y.1 = e.1)) || decide (N.length < 16)) = true) :
    Calls Tryd.prog 13 #[.pointer (some ⟨t, 0, none⟩), .agg #[.string P, .string e.1, .string e.2.1, .int .i64 e.2.2]] W fun r w' => r = .returned (.int .i64 0) ∧ Sx w t b (n + 1) P (insE N e) M w' := by
  obtain ⟨D, h1, h2⟩ := h.d
  have hq : e.1.size ≤ maxLen := by have := he.a; unfold maxLen; omega
  refine (set_ex (ofE P e) W t b n D h1 (by omega) (he.fit h.pv)).mono ?_
  rintro r w' ⟨r0, D', rfl, hT, hk, hs⟩
  have hb := he.bd h.pv
  rcases hs with ⟨rfl, _, rfl, _⟩ | ⟨_, _, _, hh, k, hc, h16⟩ | ⟨_, q, _⟩
  · exact ⟨rfl, ⟨_, hT, h2.put h1.tb.m.isMap (path_max h.pv) hq⟩, kept_be h hk, h.lb, by omega, h.pv, h.mv⟩
  · exfalso
    have e1 := h2.has h1 (path_max h.pv) hq
    have e2 := h2.cn (k := k) hc
    rw [show Maps.has D (kl P e.1) = false from hh] at e1
    rw [← e1, Bool.false_or, decide_eq_true_iff] at hy
    omega
  · exact absurd hb q
theorem sx_no (e : Ent) (h : Sx w t b n P N M W) (he : Ok e) (hn : n < 1000) (hy : N.any (fun y => decide (y.1 = e.1)) = false) (hl : 16 ≤ N.length) :
    Calls Tryd.prog 13 #[.pointer (some ⟨t, 0, none⟩), .agg #[.string P, .string e.1, .string e.2.1, .int .i64 e.2.2]] W fun r w' => r = .returned (.int .i64 194) ∧ Sx w t b (n + 1) P N M w' := by
  obtain ⟨D, h1, h2⟩ := h.d
  have hq : e.1.size ≤ maxLen := by have := he.a; unfold maxLen; omega
  refine (set_ex (ofE P e) W t b n D h1 (by omega) (he.fit h.pv)).mono ?_
  rintro r w' ⟨r0, D', rfl, hT, hk, hs⟩
  have hb := he.bd h.pv
  have e1 : Maps.has D (kl (ofE P e).p (ofE P e).n) = false := (h2.has h1 (path_max h.pv) hq).trans hy
  rcases hs with ⟨_, _, _, hh | ⟨_, k, hc, h16⟩⟩ | ⟨rfl, _, rfl, _⟩ | ⟨_, q, _⟩
  · rw [e1] at hh; simp at hh
  · have := h2.cn (k := k) hc; omega
  · exact ⟨rfl, ⟨_, hT, h2⟩, kept_be h hk, h.lb, by omega, h.pv, h.mv⟩
  · exact absurd hb q
theorem sx_other (Q : ByteArray) (e : Ent) (h : Sx w t b n P N [] W) (he : Ok e) (hQ : (L.splitO Q).isSome = true) (hne : Q ≠ P) (hn : n < 1000) :
    Calls Tryd.prog 13 #[.pointer (some ⟨t, 0, none⟩), .agg #[.string Q, .string e.1, .string e.2.1, .int .i64 e.2.2]] W fun r w' => r = .returned (.int .i64 0) ∧ Sx w t b (n + 1) P N [ofE Q e] w' := by
  obtain ⟨D, h1, h2⟩ := h.d
  have hq : e.1.size ≤ maxLen := by have := he.a; unfold maxLen; omega
  have no : ∀ x, InD D x → x.p ≠ Q := fun x hx => by
    rcases (h2.m x).1 hx with ⟨a, _⟩ | a
    · rw [a]; exact fun e => hne e.symm
    · simp at a
  refine (set_ex (ofE Q e) W t b n D h1 (by omega) (he.fit hQ)).mono ?_
  rintro r w' ⟨r0, D', rfl, hT, hk, hs⟩
  have hb := he.bd hQ
  rcases hs with ⟨rfl, _, rfl, _⟩ | ⟨_, _, _, _, k, ⟨ll, _, hm, hl⟩, h16⟩ | ⟨_, q, _⟩
  · refine ⟨rfl, ⟨_, hT, ⟨fun x => ?_, h2.d, fun x hx => ?_, List.pairwise_singleton _ _⟩⟩, kept_be h hk, h.lb, by omega, h.pv, fun x hx => ?_⟩
    · refine Iff.trans (InD.put (x := x) (y := ofE Q e) h1.tb.m.isMap (path_max hQ) hq) ?_
      rw [h2.m x, List.mem_singleton]
      constructor
      · rintro (q | ⟨q | q, _⟩)
        · exact Or.inr q
        · exact Or.inl q
        · simp at q
      · rintro (q | q)
        · exact Or.inr ⟨Or.inl q, fun z => hne (z.1.symm.trans q.1)⟩
        · exact Or.inl q
    · rw [List.mem_singleton] at hx; subst hx; exact hne
    · rw [List.mem_singleton] at hx; subst hx; exact hQ
  · exfalso
    cases ll with
    | nil => simp at hl; omega
    | cons x _ =>
      have q := (hm x).1 (by simp)
      exact no x q.1 q.2
  · exact absurd hb q
theorem sx_drop (q : ByteArray) (h : Sx w t b n P N M W) (hq : q.size ≤ maxLen) (hy : N.any (fun y => decide (y.1 = q)) = true) :
    Calls Tryd.prog 15 #[.pointer (some ⟨t, 0, none⟩), .string P, .string q] W fun r w' => r = .returned (.int .i64 0) ∧ Sx w t b n P (N.filter (fun y => decide (y.1 ≠ q))) M w' := by
  obtain ⟨D, h1, h2⟩ := h.d
  refine (drop_ex P q W t b n D h1 (path_max h.pv) hq).mono ?_
  rintro r w' ⟨r0, D', rfl, hT, hk, hs⟩
  rcases hs with ⟨rfl, _, _, rfl⟩ | ⟨_, _, hh, _⟩ | ⟨z, _⟩
  · exact ⟨rfl, ⟨_, hT, h2.del (path_max h.pv) hq⟩, kept_be h hk, h.lb, h.nn, h.pv, h.mv⟩
  · rw [h2.has h1 (path_max h.pv) hq, hy] at hh; simp at hh
  · exact absurd (path_zero h.pv) z
theorem sx_dropNo (q : ByteArray) (h : Sx w t b n P N M W) (hq : q.size ≤ maxLen) (hy : N.any (fun y => decide (y.1 = q)) = false) :
    Calls Tryd.prog 15 #[.pointer (some ⟨t, 0, none⟩), .string P, .string q] W fun r w' => r = .returned (.int .i64 191) ∧ Sx w t b n P N M w' := by
  obtain ⟨D, h1, h2⟩ := h.d
  refine (drop_ex P q W t b n D h1 (path_max h.pv) hq).mono ?_
  rintro r w' ⟨r0, D', rfl, hT, hk, hs⟩
  rcases hs with ⟨_, _, hh, _⟩ | ⟨rfl, _, _, rfl⟩ | ⟨z, _⟩
  · rw [h2.has h1 (path_max h.pv) hq, hy] at hh; simp at hh
  · exact ⟨rfl, ⟨_, hT, h2⟩, kept_be h hk, h.lb, h.nn, h.pv, h.mv⟩
  · exact absurd (path_zero h.pv) z
theorem sx_leave (h : Sx w t b n P N M W) :
    Calls Tryd.prog 16 #[.pointer (some ⟨t, 0, none⟩), .string P] W fun r w' => r = .returned (.int .i64 (N.length : Int)) ∧ Sx w t b n P [] M w' := by
  obtain ⟨D, h1, h2⟩ := h.d
  refine (leave_ex P W t b n D h1 (by have := h.nn; omega)).mono ?_
  rintro r w' ⟨k, D', rfl, hT, hk, hs⟩
  obtain ⟨e, h3⟩ := h2.leave hs
  exact ⟨by rw [e], ⟨_, hT, h3⟩, kept_be h hk, h.lb, h.nn, h.pv, h.mv⟩
theorem sx_turn {o : Bd} (h : Sx w t b n P [] [o] W) : Sx w t b n o.p [(o.n, o.s, o.v)] [] W := by
  obtain ⟨D, h1, h2⟩ := h.d
  refine ⟨⟨D, h1, ⟨fun x => ?_, by simp, fun x hx => by simp at hx, List.Pairwise.nil⟩⟩, h.be, h.lb, h.nn, h.mv o (by simp), fun x hx => by simp at hx⟩
  rw [h2.m x, List.mem_singleton, List.mem_singleton]
  constructor
  · rintro (⟨_, q⟩ | rfl)
    · simp at q
    · exact Or.inl ⟨rfl, rfl⟩
  · rintro (⟨a, b⟩ | q)
    · refine Or.inr ?_
      cases x; cases o
      simp only [Prod.mk.injEq] at a b
      rw [a, b.1, b.2.1, b.2.2]
    · simp at q
theorem sx_list (h : Sx w t b n P N M W) :
    Calls Tryd.prog 14 #[.pointer (some ⟨t, 0, none⟩)] W fun r w' => ∃ a c, r = .returned (.slice a (N.length + M.length) c) ∧ Sx w t b n P N M w' := by
  obtain ⟨D, h1, h2⟩ := h.d
  refine (list_any W t b n D h1 (by have := h.nn; omega) (fun x hx => ?_)).mono ?_
  · rcases (h2.m x).1 hx with ⟨a, _⟩ | a
    · rw [a]; exact h.pv
    · exact h.mv x a
  · rintro r w' ⟨v, S, rfl, hrow, hli, hb⟩
    obtain ⟨a, c, rfl, _, _⟩ := hrow.len
    rw [h2.list hli]
    exact ⟨a, c, rfl, h.below hb⟩
end Ac
end Go.Proofs.YtiddgagfdijjeaaDoor
