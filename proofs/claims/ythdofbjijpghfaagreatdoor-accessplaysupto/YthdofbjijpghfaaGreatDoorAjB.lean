/-
  The highest of paths that rise.
-/
import Derived.Test.YthdofbjijpghfaaGreatDoorAjA
import Derived.Test.YthdofbjijpghfaaGreatDoorAiW
namespace Go.Proofs.YthdofbjijpghfaaGreatDoor
open Go.RowKit Go.Sort Go.Lib
namespace Ac
/-- What begins both ends of a stretch begins all between. -/
theorem pre_between {a x q : List (List UInt8)} (h : a <+: q) (h1 : ¬ x < a) (h2 : ¬ q < x) : a <+: x := by
  induction a generalizing x q with
  | nil => exact List.nil_prefix
  | cons b a ih =>
    obtain ⟨t, rfl⟩ := h
    cases x with
    | nil => exact absurd (List.nil_lt_cons _ _) h1
    | cons y x =>
      rw [List.cons_append, List.cons_lt_cons_iff] at h2
      rw [List.cons_lt_cons_iff] at h1
      have e : y = b := by
        have n1 : ¬ y < b := fun h => h1 (Or.inl h)
        have n2 : ¬ b < y := fun h => h2 (Or.inl h)
        exact List.le_antisymm (List.not_lt.1 n2) (List.not_lt.1 n1)
      subst e
      exact List.cons_prefix_cons.2 ⟨rfl, ih ⟨t, rfl⟩ (fun h => h1 (Or.inr ⟨rfl, h⟩)) (fun h => h2 (Or.inr ⟨rfl, h⟩))⟩
theorem pre_le {a q : List (List UInt8)} (h : a <+: q) : ¬ q < a := by
  induction a generalizing q with
  | nil => exact List.not_lt_nil _
  | cons b a ih =>
    obtain ⟨t, rfl⟩ := h
    rw [List.cons_append, List.cons_lt_cons_iff]
    rintro (h | ⟨_, h⟩)
    · exact List.lt_irrefl _ h
    · exact ih ⟨t, rfl⟩ h
/-- Below it, or it. -/
theorem under_pre (x y : Pt) : L.underB x.1 y.1 = true ↔ keyP y <+: keyP x := by
  obtain ⟨p, hx⟩ := x
  obtain ⟨q, hy⟩ := y
  obtain ⟨a, ha⟩ := Option.isSome_iff_exists.1 hx
  obtain ⟨b, hb⟩ := Option.isSome_iff_exists.1 hy
  obtain ⟨e1, g1⟩ := L.splitO_some ha
  obtain ⟨e2, g2⟩ := L.splitO_some hb
  subst e1 e2
  unfold keyP L.splitT
  simp only
  rw [ha, hb, L.under_line g1]
  simp only [Option.getD_some]
  constructor
  · rintro ⟨k, hk, e⟩
    have e3 : b = a.take k := by
      have q1 := L.splitO_good g2
      rw [e, L.splitO_good (g1.take k)] at q1
      exact (Option.some.inj q1).symm
    rw [e3]
    unfold ky
    rw [List.map_take]
    exact List.take_prefix _ _
  · intro h
    refine ⟨b.length, ?_, ?_⟩
    · have := h.length_le
      simpa [ky] using this
    · have e3 : ky b = ky (a.take b.length) := by
        have q := List.prefix_iff_eq_take.1 h
        rw [q]
        unfold ky
        rw [List.map_take, List.length_map]
      rw [← ky_inj e3]
/-- One more, behind the highest so far. -/
def hiS (T : List Pt) (p : Pt) : List Pt := if T = [] ∨ L.underB p.1 (T.getLastD Pt.z).1 = false then T ++ [p] else T
def hiF (ps : List Pt) : List Pt := ps.foldl hiS []
theorem hiF_snoc (ps : List Pt) (p : Pt) : hiF (ps ++ [p]) = hiS (hiF ps) p := by unfold hiF; rw [List.foldl_append]; rfl
/-- The highest of what has come. -/
structure Hi (ps T : List Pt) : Prop where
  m : ∀ t ∈ T, t ∈ ps
  a : ∀ p ∈ ps, ∃ t ∈ T, keyP t <+: keyP p
  d : T.Pairwise fun x y => ¬ keyP x <+: keyP y ∧ ¬ keyP y <+: keyP x
  l : ∀ t ∈ T, ¬ keyP (T.getLastD Pt.z) < keyP t
theorem Hi.start : Hi [] [] := ⟨fun t h => by simp at h, fun t h => by simp at h, List.Pairwise.nil, fun t h => by simp at h⟩
theorem getLastD_mem {T : List Pt} (h : T ≠ []) : T.getLastD Pt.z ∈ T := by
  have e : T.getLast? = some (T.getLast h) := by
    cases T with
    | nil => exact absurd rfl h
    | cons x r => rfl
  rw [List.getLastD_eq_getLast?, e]
  exact List.getLast_mem h
theorem Hi.step {ps T : List Pt} {p : Pt} (h : Hi ps T) (hp : ∀ x ∈ ps, ¬ keyP p < keyP x) : Hi (ps ++ [p]) (hiS T p) := by
  unfold hiS
  by_cases hc : T = [] ∨ L.underB p.1 (T.getLastD Pt.z).1 = false
  · rw [if_pos hc]
    have HN : ∀ t ∈ T, ¬ keyP t <+: keyP p ∧ ¬ keyP p <+: keyP t := fun t ht => by
      rcases hc with hc | hc
      · rw [hc] at ht; simp at ht
      · have hne : T ≠ [] := fun e => by rw [e] at ht; simp at ht
        have hl := getLastD_mem hne
        have hn : ¬ keyP (T.getLastD Pt.z) <+: keyP p := fun q => by rw [(under_pre _ _).2 q] at hc; simp at hc
        have l1 := h.l t ht
        have l2 := hp _ (h.m _ hl)
        refine ⟨fun q => ?_, fun q => ?_⟩
        · have q2 := pre_between q l1 l2
          have e : t = T.getLastD Pt.z := by
            by_cases e : t = T.getLastD Pt.z
            · exact e
            · exfalso
              obtain ⟨i, hi, e1⟩ := List.getElem_of_mem ht
              obtain ⟨j, hj, e2⟩ := List.getElem_of_mem hl
              have hij : i ≠ j := fun z => e (by rw [← e1, ← e2]; subst z; rfl)
              have q4 := List.pairwise_iff_getElem.1 h.d
              rcases Nat.lt_or_gt_of_ne hij with z | z
              · have := (q4 i j hi hj z).1
                rw [e1, e2] at this
                exact this q2
              · have := (q4 j i hj hi z).2
                rw [e1, e2] at this
                exact this q2
          rw [← e] at hn
          exact hn q
        · have q2 := pre_le q
          have e : keyP p = keyP t := by
            have a1 : ¬ keyP p < keyP t := hp t (h.m t ht)
            exact List.le_antisymm (List.not_lt.1 q2) (List.not_lt.1 a1)
          rw [e] at l2 hn
          exact hn (by rw [List.le_antisymm (List.not_lt.1 l2) (List.not_lt.1 l1)]; exact List.prefix_refl _)
    refine ⟨fun t ht => ?_, fun q hq => ?_, ?_, fun t ht => ?_⟩
    · rcases List.mem_append.1 ht with ht | ht
      · exact List.mem_append.2 (Or.inl (h.m t ht))
      · exact List.mem_append.2 (Or.inr ht)
    · rcases List.mem_append.1 hq with hq | hq
      · obtain ⟨t, a, b⟩ := h.a q hq
        exact ⟨t, List.mem_append.2 (Or.inl a), b⟩
      · rw [List.mem_singleton] at hq
        exact ⟨p, by simp, by rw [hq]; exact List.prefix_refl _⟩
    · rw [List.pairwise_append]
      refine ⟨h.d, List.pairwise_singleton _ _, fun a ha b hb => ?_⟩
      rw [List.mem_singleton] at hb
      rw [hb]
      exact HN a ha
    · have e : (T ++ [p]).getLastD Pt.z = p := by simp [List.getLastD_eq_getLast?]
      rw [e]
      rcases List.mem_append.1 ht with ht | ht
      · exact hp t (h.m t ht)
      · rw [List.mem_singleton] at ht
        rw [ht]
        exact List.lt_irrefl _
  · rw [if_neg hc]
    have hne : T ≠ [] := fun e => hc (Or.inl e)
    have hu : L.underB p.1 (T.getLastD Pt.z).1 = true := by
      cases q : L.underB p.1 (T.getLastD Pt.z).1 with
      | true => rfl
      | false => exact absurd (Or.inr q) hc
    refine ⟨fun t ht => List.mem_append.2 (Or.inl (h.m t ht)), fun q hq => ?_, h.d, h.l⟩
    rcases List.mem_append.1 hq with hq | hq
    · exact h.a q hq
    · rw [List.mem_singleton] at hq
      rw [hq]
      exact ⟨_, getLastD_mem hne, (under_pre _ _).1 hu⟩
theorem hi_all : ∀ (qs ps : List Pt) (T : List Pt), Hi ps T → RisP (ps ++ qs) → Hi (ps ++ qs) (qs.foldl hiS T)
  | [], ps, T, h, _ => by simpa using h
  | q :: qs, ps, T, h, hr => by
    have hs : Hi (ps ++ [q]) (hiS T q) := h.step fun x hx => by
      have := (List.pairwise_append.1 hr).2.2 x hx q (by simp)
      rw [lt_cPt] at this
      exact of_decide_eq_false this
    have := hi_all qs (ps ++ [q]) (hiS T q) hs (by rw [List.append_assoc]; exact hr)
    rw [List.append_assoc] at this
    exact this
theorem hi_rise {ps : List Pt} (h : RisP ps) : Hi ps (hiF ps) := by
  have := hi_all ps [] [] Hi.start h
  rw [List.nil_append] at this
  exact this
end Ac
end Go.Proofs.YthdofbjijpghfaaGreatDoor
