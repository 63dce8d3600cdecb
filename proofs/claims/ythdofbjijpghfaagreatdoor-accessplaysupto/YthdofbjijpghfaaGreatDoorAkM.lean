/-
  The document's table and the program's: the same bindings. (Pure.)
-/
import Derived.Test.YthdofbjijpghfaaGreatDoorAkJ
import Derived.Test.YthdofbjijpghfaaGreatDoorAkK
namespace Go.Proofs.YthdofbjijpghfaaGreatDoor
open Go.RowKit Go.Sort
namespace Ac
structure Dm (D : DataW Unit) (M : List Bv) : Prop where
  m : ∀ x : Bd, (∃ y ∈ M, y.1 = x) ↔ InD D x
  d : M.Pairwise fun a b => kl a.1.p a.1.n ≠ kl b.1.p b.1.n
  r : RisV M
variable {D D' : DataW Unit} {M : List Bv}
theorem not_start (x : Bd) : ¬ InD (.map []) x := fun h => by
  have e := h.1 (.map [])
  have f : ∀ z : DataW Unit, (DataW.map [] : DataW Unit).atKey (kl x.p x.n) z = z := fun z => rfl
  rw [f] at e
  unfold eR at e
  simp at e
theorem Dm.start : Dm (.map []) [] := ⟨fun x => ⟨fun ⟨_, h, _⟩ => by simp at h, fun h => absurd h (not_start x)⟩, List.Pairwise.nil, List.Pairwise.nil⟩
theorem Iv.new : Iv (.map []) := ⟨fun x hx => absurd hx (not_start x), fun p k ⟨ll, _, hm, hk⟩ => by
  cases ll with
  | nil => rw [hk]; simp
  | cons a r => exact absurd ((hm a).1 (by simp)).1 (not_start a)⟩
theorem Dm.mem (h : Dm D M) (y : Bv) : y ∈ M ↔ InD D y.1 :=
  ⟨fun q => (h.m y.1).1 ⟨y, q, rfl⟩, fun q => by
    obtain ⟨z, hz, e⟩ := (h.m y.1).2 q
    rw [← Subtype.ext e]; exact hz⟩
theorem Dm.rises (h : Dm D M) : M.Pairwise (fun x y => ltOf cV x y = true) := by
  have := List.Pairwise.and h.r h.d
  exact this.imp fun ⟨a, b⟩ => lt_total a b
theorem Dm.one (h : Dm D M) {S : List Bv} (h' : Li D S) : S = M :=
  rise_eq (r := fun x y => ltOf cV x y = true) (fun a q => by rw [swoV.irrefl] at q; simp at q) (fun a b c => swoV.trans a b c) h'.rises h.rises fun x => by
    rw [h.mem x]
    exact ⟨fun q => (h'.m x.1).1 ⟨x, q, rfl⟩, fun q => by
      obtain ⟨y, hy, ey⟩ := (h'.m x.1).2 q
      rw [← Subtype.ext ey]; exact hy⟩
theorem Dm.cn (h : Dm D M) (p : ByteArray) : Cn D p (cntP p M) := by
  refine ⟨(M.filter (fun y => decide (y.1.p = p))).map (·.1), ?_, fun x => ?_, ?_⟩
  · rw [List.pairwise_map]; exact h.d.filter _
  · rw [List.mem_map]
    constructor
    · rintro ⟨y, hy, rfl⟩
      obtain ⟨a, b⟩ := List.mem_filter.1 hy
      exact ⟨(h.m y.1).1 ⟨y, a, rfl⟩, of_decide_eq_true b⟩
    · rintro ⟨a, b⟩
      obtain ⟨y, hy, rfl⟩ := (h.m x).2 a
      exact ⟨y, List.mem_filter.2 ⟨hy, decide_eq_true b⟩, rfl⟩
  · unfold cntP; rw [List.length_map]
theorem Dm.hasE (h : Dm D M) (p q : ByteArray) : (∃ s v, InD D ⟨p, q, s, v⟩) ↔ hasV M p q := by
  constructor
  · rintro ⟨s, v, hx⟩
    obtain ⟨y, hy, e⟩ := (h.m _).2 hx
    exact ⟨y, hy, by rw [e], by rw [e]⟩
  · rintro ⟨y, hy, rfl, rfl⟩
    exact ⟨y.1.s, y.1.v, (h.mem y).1 hy⟩
theorem Dm.has {w : World} {t b n : Nat} (h : Dm D M) (H : Ta w t b n D) {p q : ByteArray} (hp : p.size ≤ maxLen) (hq : q.size ≤ maxLen) : Maps.has D (kl p q) = true ↔ hasV M p q := by
  rw [has_iff H hp hq]; exact h.hasE p q
theorem Dm.bd (h : Dm D M) (hi : Iv D) {y : Bv} (hy : y ∈ M) : bdS y.1 = true := (bd_code _).1 (hi.v _ ((h.mem y).1 hy))
theorem Dm.sizes (h : Dm D M) (hi : Iv D) : ∀ y ∈ M, y.1.p.size ≤ 1048576 := fun y hy => by
  have := (bd_facts (h.bd hi hy)).1.1
  omega
theorem insB_permM (x : Bv) : ∀ P : List Bv, (insB x P).Perm (x :: P)
  | [] => List.Perm.refl _
  | y :: r => by
    unfold insB
    split
    · exact List.Perm.refl _
    · exact ((insB_permM x r).cons y).trans (List.Perm.swap x y r)
theorem Dm.put_new (h : Dm D M) (hD : Maps.IsMap D) {x : Bd} (hv : (L.splitO x.p).isSome = true) (h1 : x.p.size ≤ maxLen) (h2 : x.n.size ≤ maxLen) (hno : ¬ hasV M x.p x.n) : Dm (D.put (kl x.p x.n) (eR x.s x.v)) (insB (Bv.mk x hv) M) := by
  refine ⟨fun z => ?_, ?_, insB_rise h.r⟩
  · rw [InD.put hD h1 h2]
    constructor
    · rintro ⟨y, hy, rfl⟩
      rcases insB_mem.1 hy with rfl | hy
      · exact Or.inl rfl
      · exact Or.inr ⟨(h.mem y).1 hy, fun e => hno ⟨y, hy, e.1, e.2⟩⟩
    · rintro (rfl | ⟨q, _⟩)
      · exact ⟨_, insB_mem.2 (Or.inl rfl), rfl⟩
      · obtain ⟨y, hy, e⟩ := (h.m z).2 q
        exact ⟨y, insB_mem.2 (Or.inr hy), e⟩
  · refine (insB_permM _ _).symm.pairwise (List.pairwise_cons.2 ⟨fun y hy e => ?_, h.d⟩) (fun q e => q e.symm)
    have f := (h.mem y).1 hy
    have q := kl_inj e h1 h2 f.2.1 f.2.2
    exact hno ⟨y, hy, q.1.symm, q.2.symm⟩
theorem set_split : ∀ (M : List Bv) (j : Nat), j < M.length → ∃ A B, M = A ++ M.getD j Bv.z :: B ∧ ∀ x, M.set j x = A ++ x :: B
  | a :: r, 0, _ => ⟨[], r, rfl, fun _ => rfl⟩
  | a :: r, j + 1, h => by
    obtain ⟨A, B, e1, e2⟩ := set_split r j (by simpa using h)
    refine ⟨a :: A, B, ?_, fun x => ?_⟩
    · show a :: r = a :: (A ++ r.getD j Bv.z :: B)
      rw [← e1]
    · show a :: r.set j x = a :: (A ++ x :: B)
      rw [e2]
theorem pw_swap {R : Bv → Bv → Prop} {A B : List Bv} {y x : Bv} (h : (A ++ y :: B).Pairwise R) (h1 : ∀ z, R y z → R x z) (h2 : ∀ z, R z y → R z x) : (A ++ x :: B).Pairwise R := by
  rw [List.pairwise_append, List.pairwise_cons] at h ⊢
  obtain ⟨a, ⟨b1, b2⟩, c⟩ := h
  refine ⟨a, ⟨fun z hz => h1 z (b1 z hz), b2⟩, fun z hz q hq => ?_⟩
  rcases List.mem_cons.1 hq with rfl | hq
  · exact h2 z (c z hz _ (by simp))
  · exact c z hz q (by simp [hq])
theorem Dm.put_old (h : Dm D M) (hD : Maps.IsMap D) {x : Bd} (hv : (L.splitO x.p).isSome = true) (h1 : x.p.size ≤ maxLen) (h2 : x.n.size ≤ maxLen) {j : Nat} (hj : j < M.length) (e1 : (M.getD j Bv.z).1.p = x.p) (e2 : (M.getD j Bv.z).1.n = x.n) : Dm (D.put (kl x.p x.n) (eR x.s x.v)) (M.set j (Bv.mk x hv)) := by
  obtain ⟨A, B, eM, eS⟩ := set_split M j hj
  rw [eS]
  obtain ⟨y0, hy0⟩ : ∃ y0, y0 = M.getD j Bv.z := ⟨_, rfl⟩
  rw [← hy0] at e1 e2 eM
  have hd := h.d
  have hr := h.r
  rw [eM] at hd
  unfold RisV at hr
  rw [eM] at hr
  have ek : kl y0.1.p y0.1.n = kl (Bv.mk x hv).1.p (Bv.mk x hv).1.n := by rw [e1, e2]; rfl
  have eky : key y0 = key (Bv.mk x hv) := by unfold key; rw [e1, e2]; rfl
  refine ⟨fun z => ?_, pw_swap hd (fun z q => by rw [← ek]; exact q) (fun z q => by rw [← ek]; exact q), pw_swap hr (fun z q => by rw [lt_cV] at q ⊢; rw [← eky]; exact q) (fun z q => by rw [lt_cV] at q ⊢; rw [← eky]; exact q)⟩
  rw [InD.put hD h1 h2]
  have nk : ∀ y ∈ A ++ B, ¬ (y.1.p = x.p ∧ y.1.n = x.n) := fun y hy e => by
    rw [List.pairwise_append, List.pairwise_cons] at hd
    rcases List.mem_append.1 hy with q | q
    · exact hd.2.2 y q y0 (by simp) (by rw [e.1, e.2, e1, e2])
    · exact hd.2.1.1 y q (by rw [e.1, e.2, e1, e2])
  constructor
  · rintro ⟨y, hy, rfl⟩
    rcases List.mem_append.1 hy with q | q
    · exact Or.inr ⟨(h.mem y).1 (by rw [eM]; simp [q]), nk y (by simp [q])⟩
    · rcases List.mem_cons.1 q with rfl | q
      · exact Or.inl rfl
      · exact Or.inr ⟨(h.mem y).1 (by rw [eM]; simp [q]), nk y (by simp [q])⟩
  · rintro (rfl | ⟨q, ne⟩)
    · exact ⟨Bv.mk z hv, by simp, rfl⟩
    · obtain ⟨y, hy, e⟩ := (h.m z).2 q
      rw [eM] at hy
      rcases List.mem_append.1 hy with q | q
      · exact ⟨y, by simp [q], e⟩
      · rcases List.mem_cons.1 q with rfl | q
        · exact absurd ⟨by rw [← e]; exact e1, by rw [← e]; exact e2⟩ ne
        · exact ⟨y, by simp [q], e⟩
theorem Dm.filt (h : Dm D M) (f : Bv → Bool) (hs : ∀ x, InD D' x → InD D x) (hm : ∀ y : Bv, y ∈ M → (InD D' y.1 ↔ f y = true)) : Dm D' (M.filter f) := by
  refine ⟨fun x => ?_, h.d.filter _, ?_⟩
  · constructor
    · rintro ⟨y, hy, rfl⟩
      obtain ⟨a, b⟩ := List.mem_filter.1 hy
      exact (hm y a).2 b
    · intro hx
      obtain ⟨y, hy, rfl⟩ := (h.m x).2 (hs x hx)
      exact ⟨y, List.mem_filter.2 ⟨hy, (hm y hy).1 hx⟩, rfl⟩
  · have := h.r
    unfold RisV at this ⊢
    exact this.filter _
theorem kp_drop (p q : ByteArray) (y : Bv) : kpB p q false y = true ↔ ¬ (y.1.p = p ∧ y.1.n = q) := by
  unfold kpB
  rw [Bool.not_eq_true', Bool.false_or, ← Bool.not_eq_true, Bool.and_eq_true, teq_iff, teq_iff]
theorem kp_leave (p q : ByteArray) (y : Bv) : kpB p q true y = true ↔ ¬ y.1.p = p := by
  unfold kpB
  rw [Bool.not_eq_true', Bool.true_or, ← Bool.not_eq_true, Bool.and_true, teq_iff]
theorem go_drop (M : List Bv) (p q : ByteArray) : goN M p q false = 0 ↔ ¬ hasV M p q := by
  unfold goN
  have key : (M.filter (kpB p q false)).length = M.length ↔ ¬ hasV M p q := by
    induction M with
    | nil => simp [hasV]
    | cons a r ih =>
      have hle := List.length_filter_le (kpB p q false) r
      cases e : kpB p q false a with
      | true =>
        have e' := (kp_drop p q a).1 e
        rw [List.filter_cons, e]
        simp only [if_true, List.length_cons, Nat.add_right_cancel_iff]
        rw [ih]
        unfold hasV
        simp only [List.mem_cons, exists_eq_or_imp]
        exact ⟨fun h q => q.elim e' h, fun h q => h (Or.inr q)⟩
      | false =>
        have e' : a.1.p = p ∧ a.1.n = q := Classical.byContradiction fun c => by
          rw [(kp_drop p q a).2 c] at e; exact absurd e (by decide)
        rw [List.filter_cons, e]
        simp only [Bool.false_eq_true, if_false, List.length_cons]
        exact ⟨fun h => by omega, fun h => absurd ⟨a, by simp, e'⟩ h⟩
  rw [← key]
  omega
theorem go_leave (M : List Bv) (p q : ByteArray) : goN M p q true = (cntP p M : Int) := by
  unfold goN cntP
  have key : (M.filter (kpB p q true)).length + (M.filter (fun y => decide (y.1.p = p))).length = M.length := by
    induction M with
    | nil => rfl
    | cons a r ih =>
      by_cases e : a.1.p = p
      · have e1 : kpB p q true a = false := by
          cases c : kpB p q true a with
          | false => rfl
          | true => exact absurd e ((kp_leave p q a).1 c)
        rw [List.filter_cons, List.filter_cons, e1]
        simp only [e, Bool.false_eq_true, if_false, decide_true, if_true, List.length_cons]
        omega
      · have e1 : kpB p q true a = true := (kp_leave p q a).2 e
        rw [List.filter_cons, List.filter_cons, e1]
        simp only [e, decide_false, Bool.false_eq_true, if_false, if_true, List.length_cons]
        omega
  omega
theorem filt_all (M : List Bv) (p q : ByteArray) (h : ¬ hasV M p q) : M.filter (kpB p q false) = M :=
  List.filter_eq_self.2 fun y hy => (kp_drop p q y).2 fun e => h ⟨y, hy, e⟩
end Ac
end Go.Proofs.YthdofbjijpghfaaGreatDoor
