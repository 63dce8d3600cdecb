/-
  One more laid into a list that rises. (Pure.)
-/
import Derived.Test.YthdofbjijpghfaaGreatDoorAkC
namespace Go.Proofs.YthdofbjijpghfaaGreatDoor
open Go.RowKit Go.Sort
namespace Ac
/-- The one comes ahead of the other. -/
def ahd (x y : Bv) : Bool := ltOf cV x y
theorem ahd_iff (x y : Bv) : ahd x y = (aheadB x.1.p y.1.p || (decide (x.1.p = y.1.p) && Op.bytesLess x.1.n.toList y.1.n.toList)) := by
  unfold ahd ltOf cV cB aheadB
  by_cases h : x.1.p = y.1.p
  · rw [if_pos h]
    have e : cmP x.1.p y.1.p = 0 := by
      rw [h]; unfold cmP
      have : ∀ l : List ByteArray, cmL l l = 0 := by
        intro l
        induction l with
        | nil => rfl
        | cons z r ih => rw [cmL, if_pos ((cmS_zero z z).2 rfl), ih]
      exact this _
    rw [e, cmS_bool]
    simp [h]
  · rw [if_neg h]
    simp [h]
def insB (x : Bv) : List Bv → List Bv
  | [] => [x]
  | y :: r => if ahd x y = true then x :: y :: r else y :: insB x r
theorem insB_done {x : Bv} : ∀ {P : List Bv} (Q : List Bv), (∃ y ∈ P, ahd x y = true) → insB x (P ++ Q) = insB x P ++ Q
  | [], _, h => by obtain ⟨y, hy, _⟩ := h; simp at hy
  | z :: r, Q, h => by
    show insB x (z :: (r ++ Q)) = _
    unfold insB
    by_cases e : ahd x z = true
    · rw [if_pos e, if_pos e]; rfl
    · rw [if_neg e, if_neg e]
      have : ∃ y ∈ r, ahd x y = true := by
        obtain ⟨y, hy, hq⟩ := h
        rcases List.mem_cons.1 hy with rfl | hy
        · exact absurd hq e
        · exact ⟨y, hy, hq⟩
      rw [insB_done Q this]; rfl
theorem insB_none {x : Bv} : ∀ {P : List Bv}, (∀ y ∈ P, ahd x y = false) → ∀ Q, insB x (P ++ Q) = P ++ insB x Q
  | [], _, _ => rfl
  | z :: r, h, Q => by
    show insB x (z :: (r ++ Q)) = _
    have e : ahd x z = false := h z (by simp)
    rw [insB, if_neg (by rw [e]; simp), insB_none (fun y hy => h y (by simp [hy])) Q]; rfl
theorem insB_mem {x z : Bv} : ∀ {P : List Bv}, z ∈ insB x P ↔ z = x ∨ z ∈ P
  | [] => by simp [insB]
  | y :: r => by
    unfold insB
    split
    · simp
    · rw [List.mem_cons, insB_mem, List.mem_cons]
      constructor
      · rintro (h | h | h)
        · exact Or.inr (Or.inl h)
        · exact Or.inl h
        · exact Or.inr (Or.inr h)
      · rintro (h | h | h)
        · exact Or.inr (Or.inl h)
        · exact Or.inl h
        · exact Or.inr (Or.inr h)
theorem insB_len (x : Bv) : ∀ P : List Bv, (insB x P).length = P.length + 1
  | [] => rfl
  | y :: r => by
    unfold insB
    split
    · simp
    · rw [List.length_cons, insB_len, List.length_cons]
theorem insB_rise {x : Bv} : ∀ {P : List Bv}, RisV P → RisV (insB x P)
  | [], _ => List.pairwise_singleton _ _
  | y :: r, h => by
    obtain ⟨h1, h2⟩ := List.pairwise_cons.1 h
    unfold insB
    by_cases e : ahd x y = true
    · rw [if_pos e]
      refine List.pairwise_cons.2 ⟨fun z hz => ?_, h⟩
      have anti : ∀ q : Bv, ltOf cV x q = true → ltOf cV q x = false := fun q hq => by
        cases e2 : ltOf cV q x with
        | false => rfl
        | true => have := swoV.trans _ _ _ hq e2; rw [swoV.irrefl] at this; exact absurd this (by decide)
      rcases List.mem_cons.1 hz with rfl | hz
      · exact anti _ e
      · have q1 := h1 z hz
        exact swoV.ntrans _ _ _ q1 (anti _ e)
    · rw [if_neg e]
      refine List.pairwise_cons.2 ⟨fun z hz => ?_, insB_rise h2⟩
      rcases insB_mem.1 hz with rfl | hz
      · cases q : ltOf cV z y with
        | false => rfl
        | true => exact absurd q e
      · exact h1 z hz
/-- The list under way: what has come, and whether x has come among it. -/
def way (x : Bv) (P : List Bv) (d : Bool) (l : List Bv) : Prop := (d = false ∧ l = P ∧ ∀ y ∈ P, ahd x y = false) ∨ (d = true ∧ l = insB x P ∧ ∃ y ∈ P, ahd x y = true)
theorem way.go {x y : Bv} {P l : List Bv} {d : Bool} (h : way x P d l) : way x (P ++ [y]) (d || ahd x y) (l ++ (if !d && ahd x y then [x] else []) ++ [y]) := by
  rcases h with ⟨rfl, rfl, h⟩ | ⟨rfl, rfl, h⟩
  · cases e : ahd x y with
    | false =>
      refine Or.inl ⟨rfl, by simp, fun z hz => ?_⟩
      rcases List.mem_append.1 hz with hz | hz
      · exact h z hz
      · rw [List.mem_singleton] at hz; rw [hz]; exact e
    | true =>
      refine Or.inr ⟨rfl, ?_, y, by simp, e⟩
      rw [insB_none h]
      simp [insB, e]
  · refine Or.inr ⟨rfl, ?_, ?_⟩
    · rw [insB_done _ h]; simp
    · obtain ⟨z, hz, e⟩ := h
      exact ⟨z, by simp [hz], e⟩
theorem way.fin {x : Bv} {P l : List Bv} {d : Bool} (h : way x P d l) : insB x P = l ++ (if d then [] else [x]) := by
  rcases h with ⟨rfl, rfl, h⟩ | ⟨rfl, rfl, _⟩
  · have := insB_none h []
    rw [List.append_nil] at this
    rw [this]; rfl
  · simp
theorem way.len {x : Bv} {P l : List Bv} {d : Bool} (h : way x P d l) : l.length ≤ P.length + 1 := by
  rcases h with ⟨_, rfl, _⟩ | ⟨_, rfl, _⟩
  · omega
  · rw [insB_len]; omega
end Ac
end Go.Proofs.YthdofbjijpghfaaGreatDoor
