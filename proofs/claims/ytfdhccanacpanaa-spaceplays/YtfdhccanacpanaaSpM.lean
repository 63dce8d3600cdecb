/-
  SPACE: the states of the blocks as a list of bytes (0 free, 1 new, 2 old, 3 held); what the calls do on it.
-/
import Derived.Test.YtfdhccanacpanaaBase2
namespace Go.Proofs.Ytfdhccanacpanaa
/-- The numbers of the blocks whose state is one of ss, the first being f. -/
def those (ss : List UInt8) : Nat → List UInt8 → List Int
  | _, [] => []
  | f, x :: l => if ss.contains x then (f : Int) :: those ss (f + 1) l else those ss (f + 1) l
theorem those_snoc (ss : List UInt8) (f : Nat) (l : List UInt8) (x : UInt8) : those ss f (l ++ [x]) = those ss f l ++ (if ss.contains x then [((f + l.length : Nat) : Int)] else []) := by
  induction l generalizing f with
  | nil => simp [those]
  | cons y l ih =>
    simp only [List.cons_append, those]
    rw [ih (f + 1)]
    have e : f + 1 + l.length = f + (y :: l).length := by rw [List.length_cons]; omega
    rw [e]
    split <;> simp
theorem those_length (ss : List UInt8) (f : Nat) (l : List UInt8) : (those ss f l).length ≤ l.length := by
  induction l generalizing f with
  | nil => simp [those]
  | cons y l ih =>
    have := ih (f + 1)
    simp only [those, List.length_cons]
    split <;> simp <;> omega
theorem mem_those (ss : List UInt8) (f : Nat) (l : List UInt8) (b : Int) : b ∈ those ss f l ↔ ∃ i, i < l.length ∧ b = ((f + i : Nat) : Int) ∧ ss.contains (l.getD i 0) = true := by
  induction l generalizing f with
  | nil => simp [those]
  | cons y l ih =>
    have key : b ∈ those ss f (y :: l) ↔ (ss.contains y = true ∧ b = (f : Int)) ∨ b ∈ those ss (f + 1) l := by
      simp only [those]
      split
      · rename_i h; simp only [List.mem_cons, h, true_and]
      · rename_i h
        exact ⟨fun q => Or.inr q, fun q => q.elim (fun q => absurd q.1 h) fun q => q⟩
    rw [key, ih (f + 1)]
    constructor
    · rintro (⟨h1, h2⟩ | ⟨i, h1, h2, h3⟩)
      · exact ⟨0, by simp, by simpa using h2, by simpa using h1⟩
      · exact ⟨i + 1, by simp; omega, by rw [h2]; congr 1; omega, by simpa using h3⟩
    · rintro ⟨i, h1, h2, h3⟩
      cases i with
      | zero => exact Or.inl ⟨by simpa using h3, by simpa using h2⟩
      | succ i => exact Or.inr ⟨i, by simpa using h1, by rw [h2]; congr 1; omega, by simpa using h3⟩
/-- The numbers of a list rise strictly, from a on, below b. -/
def Ris : Int → Int → List Int → Prop
  | _, _, [] => True
  | a, b, x :: l => a ≤ x ∧ x < b ∧ Ris (x + 1) b l
theorem Ris.mono {a a' b : Int} {l : List Int} (h : Ris a b l) (ha : a' ≤ a) : Ris a' b l := by
  cases l with
  | nil => trivial
  | cons x l => exact ⟨by have := h.1; omega, h.2.1, h.2.2⟩
theorem those_ris (ss : List UInt8) (f : Nat) (l : List UInt8) : Ris (f : Int) ((f + l.length : Nat) : Int) (those ss f l) := by
  induction l generalizing f with
  | nil => trivial
  | cons y l ih =>
    have h := ih (f + 1)
    have e : f + 1 + l.length = f + (y :: l).length := by rw [List.length_cons]; omega
    rw [e] at h
    simp only [those]
    split
    · refine ⟨by omega, by rw [List.length_cons]; omega, ?_⟩
      have e2 : (f : Int) + 1 = ((f + 1 : Nat) : Int) := by omega
      rw [e2]; exact h
    · exact h.mono (by omega)
theorem Ris.at {a b : Int} {l : List Int} (h : Ris a b l) (k : Nat) (hk : k < l.length) : a ≤ l.getD k 0 ∧ l.getD k 0 < b ∧ (∀ j, j < k → l.getD j 0 < l.getD k 0) := by
  induction l generalizing a k with
  | nil => simp at hk
  | cons x l ih =>
    cases k with
    | zero => exact ⟨by simpa using h.1, by simpa using h.2.1, fun j hj => by omega⟩
    | succ k =>
      have := ih h.2.2 k (by simpa using hk)
      have h1 := h.1
      refine ⟨by simp only [List.getD_cons_succ]; omega, by simp only [List.getD_cons_succ]; exact this.2.1, fun j hj => ?_⟩
      cases j with
      | zero => simp only [List.getD_cons_zero, List.getD_cons_succ]; omega
      | succ j => simp only [List.getD_cons_succ]; exact this.2.2 j (by omega)
/-- How many are free. -/
def freeN (l : List UInt8) : Nat := l.countP (· == 0)
theorem freeN_le (l : List UInt8) : freeN l ≤ l.length := List.countP_le_length
theorem freeN_snoc (l : List UInt8) (x : UInt8) : freeN (l ++ [x]) = freeN l + (if x = 0 then 1 else 0) := by
  unfold freeN
  rw [List.countP_append, List.countP_singleton]
  by_cases h : x = 0 <;> simp [h]
/-- All are states. -/
def Sts (l : List UInt8) : Prop := ∀ x ∈ l, x = 0 ∨ x = 1 ∨ x = 2 ∨ x = 3
theorem adds_up (f : Nat) (l : List UInt8) (h : Sts l) : freeN l + (those [1, 2] f l).length + (those [3] f l).length = l.length := by
  induction l generalizing f with
  | nil => rfl
  | cons x l ih =>
    have := ih (f + 1) (fun y hy => h y (List.mem_cons_of_mem _ hy))
    unfold freeN at this ⊢
    rcases h x (List.mem_cons_self) with rfl | rfl | rfl | rfl
    · simp [those]; omega
    · simp [those]; omega
    · simp [those]; omega
    · simp [those]; omega
/-- The lowest free one. -/
def lowF (l : List UInt8) : Nat := l.findIdx (· == 0)
theorem lowF_le (l : List UInt8) : lowF l ≤ l.length := List.findIdx_le_length
theorem lowF_at (l : List UInt8) (h : lowF l < l.length) : l[lowF l]? = some 0 := by
  have := List.findIdx_getElem (w := h)
  rw [List.getElem?_eq_getElem h]
  have e : l[lowF l] = 0 := beq_iff_eq.1 this
  rw [e]
theorem lowF_ne (l : List UInt8) (k : Nat) (h : k < lowF l) : ∃ x, l[k]? = some x ∧ x ≠ 0 := by
  have hk : k < l.length := Nat.lt_of_lt_of_le h (lowF_le l)
  have := List.not_of_lt_findIdx h
  refine ⟨l[k], List.getElem?_eq_getElem hk, ?_⟩
  simpa using this
theorem lowF_eq (l : List UInt8) (k : Nat) (h0 : l[k]? = some 0) (h : ∀ j, j < k → ∃ x, l[j]? = some x ∧ x ≠ 0) : lowF l = k := by
  rcases Nat.lt_trichotomy (lowF l) k with q | q | q
  · have hl : lowF l < l.length := by have := (List.getElem?_eq_some_iff.1 h0).1; omega
    obtain ⟨x, h1, h2⟩ := h _ q
    rw [lowF_at l hl] at h1
    simp only [Option.some.injEq] at h1
    exact absurd h1.symm h2
  · exact q
  · obtain ⟨x, h1, h2⟩ := lowF_ne l k q
    rw [h0] at h1
    simp only [Option.some.injEq] at h1
    exact absurd h1.symm h2
theorem lowF_all (l : List UInt8) (h : ∀ j, j < l.length → ∃ x, l[j]? = some x ∧ x ≠ 0) : lowF l = l.length := by
  rcases Nat.lt_or_ge (lowF l) l.length with q | q
  · obtain ⟨x, h1, h2⟩ := h _ q
    rw [lowF_at l q] at h1
    simp only [Option.some.injEq] at h1
    exact absurd h1.symm h2
  · exact Nat.le_antisymm (lowF_le l) q
/-- Take: the block, the error, the states. -/
def takeR (f : Nat) (l : List UInt8) : Int × Int × List UInt8 := if lowF l < l.length then (((f + lowF l : Nat) : Int), 0, l.set (lowF l) 1) else (-1, 3, l)
/-- Give: the error, the states. -/
def giveR (f : Nat) (l : List UInt8) (b : Int) : Int × List UInt8 :=
  if (f : Int) ≤ b ∧ b < ((f + l.length : Nat) : Int) then
    (if l.getD (b - f).toNat 0 = 1 then (0, l.set (b - f).toNat 0) else if l.getD (b - f).toNat 0 = 2 then (0, l.set (b - f).toNat 3) else (81, l))
  else (1, l)
/-- settle. -/
def stlS (a b : UInt8) (x : UInt8) : UInt8 := if x = 1 then a else if x = 3 then b else x
def stlR (a b : UInt8) (l : List UInt8) : List UInt8 := l.map (stlS a b)
theorem stlR_length (a b : UInt8) (l : List UInt8) : (stlR a b l).length = l.length := by simp [stlR]
theorem takeR_length (f : Nat) (l : List UInt8) : (takeR f l).2.2.length = l.length := by unfold takeR; split <;> simp
theorem giveR_length (f : Nat) (l : List UInt8) (b : Int) : (giveR f l b).2.length = l.length := by unfold giveR; split <;> (try split) <;> (try split) <;> simp
theorem sts_set {l : List UInt8} (h : Sts l) (i : Nat) (x : UInt8) (hx : x = 0 ∨ x = 1 ∨ x = 2 ∨ x = 3) : Sts (l.set i x) := fun y hy => by
  rcases List.mem_or_eq_of_mem_set hy with q | q
  · exact h y q
  · rw [q]; exact hx
theorem takeR_sts (f : Nat) {l : List UInt8} (h : Sts l) : Sts (takeR f l).2.2 := by
  unfold takeR; split
  · exact sts_set h _ _ (by simp)
  · exact h
theorem giveR_sts (f : Nat) {l : List UInt8} (h : Sts l) (b : Int) : Sts (giveR f l b).2 := by
  unfold giveR; split
  · split
    · exact sts_set h _ _ (by simp)
    · split
      · exact sts_set h _ _ (by simp)
      · exact h
  · exact h
theorem stlR_sts {a b : UInt8} (ha : a = 0 ∨ a = 1 ∨ a = 2 ∨ a = 3) (hb : b = 0 ∨ b = 1 ∨ b = 2 ∨ b = 3) {l : List UInt8} (h : Sts l) : Sts (stlR a b l) := fun y hy => by
  obtain ⟨x, hx, rfl⟩ := List.mem_map.1 hy
  unfold stlS
  split
  · exact ha
  · split
    · exact hb
    · exact h x hx
/-- A step: its number and its block. -/
def stepR (f : Nat) (k b : Int) (l : List UInt8) : List UInt8 :=
  if k = 1 then (takeR f l).2.2 else if k = 2 then (giveR f l b).2 else if k = 3 then stlR 2 0 l else if k = 4 then stlR 0 2 l else l
theorem stepR_length (f : Nat) (k b : Int) (l : List UInt8) : (stepR f k b l).length = l.length := by
  unfold stepR
  split
  · exact takeR_length _ _
  · split
    · exact giveR_length _ _ _
    · split
      · exact stlR_length _ _ _
      · split
        · exact stlR_length _ _ _
        · rfl
theorem stepR_sts (f : Nat) (k b : Int) {l : List UInt8} (h : Sts l) : Sts (stepR f k b l) := by
  unfold stepR
  split
  · exact takeR_sts _ h
  · split
    · exact giveR_sts _ h _
    · split
      · exact stlR_sts (by simp) (by simp) h
      · split
        · exact stlR_sts (by simp) (by simp) h
        · exact h
/-- Since the Commit that left l0. -/
def Since (l0 l : List UInt8) : Prop := l.length = l0.length ∧ ∀ (i : Nat) x0 x, l0[i]? = some x0 → l[i]? = some x → (x0 = 0 ∧ (x = 0 ∨ x = 1)) ∨ (x0 = 2 ∧ (x = 2 ∨ x = 3))
theorem since_set {l0 l : List UInt8} (h : Since l0 l) (i : Nat) (y : UInt8) (hy : ∀ x, l[i]? = some x → ((x = 0 ∨ x = 1) ∧ (y = 0 ∨ y = 1)) ∨ ((x = 2 ∨ x = 3) ∧ (y = 2 ∨ y = 3))) : Since l0 (l.set i y) := by
  refine ⟨by rw [List.length_set]; exact h.1, fun j x0 x h0 h1 => ?_⟩
  by_cases e : i = j
  · subst e
    have hi : i < l.length := by rw [h.1]; exact (List.getElem?_eq_some_iff.1 h0).1
    rw [List.getElem?_set_self hi] at h1
    simp only [Option.some.injEq] at h1
    subst h1
    have hx := List.getElem?_eq_getElem hi
    have := h.2 i x0 _ h0 hx
    rcases hy _ hx with ⟨h2, h3⟩ | ⟨h2, h3⟩
    · rcases this with q | q
      · exact Or.inl ⟨q.1, h3⟩
      · rcases h2 with h2 | h2 <;> rcases q.2 with r | r <;> rw [h2] at r <;> exact absurd r (by decide)
    · rcases this with q | q
      · rcases h2 with h2 | h2 <;> rcases q.2 with r | r <;> rw [h2] at r <;> exact absurd r (by decide)
      · exact Or.inr ⟨q.1, h3⟩
  · rw [List.getElem?_set_ne e] at h1
    exact h.2 j x0 x h0 h1
theorem since_take {l0 l : List UInt8} (h : Since l0 l) (f : Nat) : Since l0 (takeR f l).2.2 := by
  unfold takeR
  split
  · rename_i q
    refine since_set h _ _ fun x hx => ?_
    rw [lowF_at l q] at hx
    simp only [Option.some.injEq] at hx
    subst hx
    exact Or.inl ⟨Or.inl rfl, Or.inr rfl⟩
  · exact h
theorem since_give {l0 l : List UInt8} (h : Since l0 l) (f : Nat) (b : Int) : Since l0 (giveR f l b).2 := by
  unfold giveR
  split
  · split
    · rename_i q
      refine since_set h _ _ fun x hx => ?_
      simp only [List.getD, hx, Option.getD_some] at q
      subst q
      exact Or.inl ⟨Or.inr rfl, Or.inl rfl⟩
    · split
      · rename_i q
        refine since_set h _ _ fun x hx => ?_
        simp only [List.getD, hx, Option.getD_some] at q
        subst q
        exact Or.inr ⟨Or.inl rfl, Or.inr rfl⟩
      · exact h
  · exact h
theorem since_back {l0 l : List UInt8} (h : Since l0 l) : stlR 0 2 l = l0 := by
  apply List.ext_getElem?
  intro i
  unfold stlR
  rw [List.getElem?_map]
  rcases Nat.lt_or_ge i l.length with q | q
  · have q0 : i < l0.length := by rw [← h.1]; exact q
    have h1 := List.getElem?_eq_getElem q
    have h0 := List.getElem?_eq_getElem q0
    have := h.2 i _ _ h0 h1
    rw [h1, h0, Option.map_some]
    congr 1
    rcases this with ⟨e0, e1 | e1⟩ | ⟨e0, e1 | e1⟩ <;> rw [e0, e1] <;> rfl
  · rw [List.getElem?_eq_none q, List.getElem?_eq_none (by rw [← h.1]; exact q)]; rfl
theorem since_commit {l : List UInt8} (h : Sts l) : Since (stlR 2 0 l) (stlR 2 0 l) := by
  refine ⟨rfl, fun i x0 x h0 h1 => ?_⟩
  rw [h0] at h1
  simp only [Option.some.injEq] at h1
  subst h1
  unfold stlR at h0
  rw [List.getElem?_map] at h0
  obtain ⟨y, hy, e⟩ := Option.map_eq_some_iff.1 h0
  subst e
  rcases h y (List.mem_of_getElem? hy) with rfl | rfl | rfl | rfl
  · exact Or.inl ⟨rfl, Or.inl rfl⟩
  · exact Or.inr ⟨rfl, Or.inl rfl⟩
  · exact Or.inr ⟨rfl, Or.inl rfl⟩
  · exact Or.inl ⟨rfl, Or.inl rfl⟩
theorem since_sts {l0 l : List UInt8} (h : Since l0 l) : Sts l := fun x hx => by
  obtain ⟨i, hi, rfl⟩ := List.mem_iff_getElem.1 hx
  have h0 := List.getElem?_eq_getElem (show i < l0.length by rw [← h.1]; exact hi)
  rcases h.2 i _ _ h0 (List.getElem?_eq_getElem hi) with ⟨_, e | e⟩ | ⟨_, e | e⟩ <;> rw [e] <;> simp
/-- Behind a Commit none is held. -/
theorem held_none {l0 : List UInt8} (h : Since l0 l0) (f : Nat) : those [3] f l0 = [] := by
  rw [List.eq_nil_iff_forall_not_mem]
  intro b hb
  obtain ⟨i, hi, _, h3⟩ := (mem_those _ _ _ _).1 hb
  have h0 := List.getElem?_eq_getElem hi
  simp only [List.getD, h0, Option.getD_some] at h3
  rcases h.2 i _ _ h0 h0 with ⟨e, _⟩ | ⟨e, _⟩ <;> rw [e] at h3 <;> simp at h3
/-- What Take answers was free at the Commit. -/
theorem take_new {l0 l : List UInt8} (h : Since l0 l) (f : Nat) (hl : lowF l < l.length) : ((f + lowF l : Nat) : Int) ∉ those [1, 2] f l0 := by
  intro hb
  obtain ⟨i, hi, e, h3⟩ := (mem_those _ _ _ _).1 hb
  have ei : i = lowF l := by omega
  subst ei
  have h0 := List.getElem?_eq_getElem hi
  simp only [List.getD, h0, Option.getD_some] at h3
  rcases h.2 _ _ _ h0 (lowF_at l hl) with ⟨e, _⟩ | ⟨_, e | e⟩
  · rw [e] at h3; simp at h3
  · exact absurd e (by decide)
  · exact absurd e (by decide)
end Go.Proofs.Ytfdhccanacpanaa
