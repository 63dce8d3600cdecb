/-
  The document's Since, version by version, tells what Since tells; the document's Push keeps what Push keeps.
-/
import Derived.Test.YtfkoiehnkelpoaaDoorWtQ
namespace Go.Proofs.YtfkoiehnkelpoaaDoor
namespace Wt
abbrev eqv (x : Int) (e : Ev) : Bool := decide (e.v = x)
theorem le_eqv (I : List Ev) (hs : I.Pairwise (fun a b => a.v ≤ b.v)) (v : Int) : I.filter (le v) ++ I.filter (eqv (v + 1)) = I.filter (le (v + 1)) := by
  rw [← le_gt I hs (show v ≤ v + 1 by omega), List.filter_filter]
  congr 1
  refine List.filter_congr fun e _ => ?_
  by_cases q : e.v = v + 1
  · simp [eqv, le, gt, q]; omega
  · by_cases q2 : v < e.v
    · have : ¬ e.v ≤ v + 1 := by omega
      simp [eqv, le, gt, q, this]
    · simp [eqv, le, gt, q, q2]
/-- What holds ahead of version v + 1's turn. -/
def Jn (I : List Ev) (most v : Int) : Prop := ((I.filter (le v)).length : Int) ≤ most ∨ ∀ e ∈ I.filter (le v), e.v = (I.getD 0 Ev.z).v
theorem jn_start (I : List Ev) (most v : Int) (hm : 1 ≤ most) (h : ∀ e ∈ I, v < e.v) : I.filter (le v) = [] ∧ Jn I most v := by
  have : I.filter (le v) = [] := by
    rw [List.filter_eq_nil_iff]
    intro e he
    have := h e he
    simp; omega
  exact ⟨this, .inl (by rw [this]; simp; omega)⟩
theorem fst_of {I : List Ev} (hs : I.Pairwise (fun a b => a.v ≤ b.v)) {x : Int} {e : Ev} (he : e ∈ I) (hx : e.v ≤ x) : (I.getD 0 Ev.z).v ≤ e.v := by
  obtain ⟨i, hi, rfl⟩ := List.mem_iff_getElem.1 he
  have := sorted_at hs (Nat.zero_le i) hi
  rw [List.getD_eq_getElem?_getD (l := I) (i := i), List.getElem?_eq_getElem hi] at this
  exact this
theorem jn_step {I : List Ev} (hs : I.Pairwise (fun a b => a.v ≤ b.v)) {most v : Int} (h : Jn I most v)
    (hq : ¬ (0 < (I.filter (le v)).length ∧ 0 < (I.filter (eqv (v + 1))).length ∧ most < ((I.filter (le v)).length : Int) + (I.filter (eqv (v + 1))).length)) : Jn I most (v + 1) := by
  have hj := le_eqv I hs v
  unfold Jn at h ⊢
  rw [← hj]
  by_cases q0 : 0 < (I.filter (le v)).length
  · by_cases q1 : 0 < (I.filter (eqv (v + 1))).length
    · exact .inl (by rw [List.length_append]; omega)
    · rw [List.length_eq_zero_iff.1 (show (I.filter (eqv (v + 1))).length = 0 by omega), List.append_nil]
      exact h
  · rw [List.length_eq_zero_iff.1 (show (I.filter (le v)).length = 0 by omega), List.nil_append] at hj ⊢
    refine .inr fun e he => ?_
    have he' := List.mem_filter.1 he
    have h1 : e.v = v + 1 := by simpa using he'.2
    cases hI : I with
    | nil => rw [hI] at he'; simp at he'
    | cons a r =>
      have ha : a ∈ I := by rw [hI]; exact List.mem_cons_self
      have h2 := fst_of hs he'.1 (Int.le_refl _)
      have h3 : ¬ a.v ≤ v := fun c => by
        have : a ∈ I.filter (le v) := List.mem_filter.2 ⟨ha, by simpa using c⟩
        have := List.length_pos_of_mem this
        omega
      rw [hI] at h2
      simp at h2 ⊢
      omega
/-- It ends ahead of version v + 1. -/
theorem since_cut {s : St} (o : s.Ok) (ver : Int) (path : ByteArray) {most v : Int} (hm : 1 ≤ most) (h : Jn (inL s ver path) most v)
    (h0 : 0 < ((inL s ver path).filter (le v)).length) (h1 : 0 < ((inL s ver path).filter (eqv (v + 1))).length)
    (h2 : most < (((inL s ver path).filter (le v)).length : Int) + ((inL s ver path).filter (eqv (v + 1))).length) :
    sinL s ver path most = (inL s ver path).filter (le v) ∧
    sinV s ver path most = (((inL s ver path).filter (le v)).getD (((inL s ver path).filter (le v)).length - 1) Ev.z).v := by
  have hs := inL_sorted o ver path
  unfold sinL sinV
  generalize inL s ver path = I at *
  have hj := le_eqv I hs v
  have hlen : ((I.filter (le (v + 1))).length : Int) > most := by rw [← hj, List.length_append]; omega
  have hI : ((I.filter (le (v + 1))).length) ≤ I.length := List.length_filter_le _ _
  have hI2 : (I.filter (le v)).length < I.length := by
    have : (I.filter (le (v + 1))).length = (I.filter (le v)).length + (I.filter (eqv (v + 1))).length := by rw [← hj, List.length_append]
    omega
  have hw : whN I most = upN I (max ((I.getD most.toNat Ev.z).v - 1) (I.getD 0 Ev.z).v) := by unfold whN; rw [if_neg (by omega)]
  obtain ⟨x, hx⟩ : ∃ x, x = max ((I.getD most.toNat Ev.z).v - 1) (I.getD 0 Ev.z).v := ⟨_, rfl⟩
  rw [← hx] at hw
  have take_of : ∀ y : Int, ∀ i, i < (I.filter (le y)).length → (I.getD i Ev.z).v ≤ y := by
    intro y i hi
    rw [← take_upN I y hs] at hi
    have hi2 : i < upN I y := by rw [List.length_take] at hi; omega
    exact ((upN_step I y i (by omega)).1 hi2).2
  have take_not : ∀ y : Int, ∀ i, (I.filter (le y)).length ≤ i → i < I.length → y < (I.getD i Ev.z).v := by
    intro y i hi hi2
    have e1 : (I.filter (le y)).length = upN I y := by rw [← take_upN I y hs, List.length_take]; have := upN_le I y; omega
    have h1 : ¬ (upN I y < I.length ∧ (I.getD (upN I y) Ev.z).v ≤ y) := fun c => by
      have := (upN_step I y (upN I y) (Nat.le_refl _)).2 c
      omega
    have h3 := sorted_at hs (show upN I y ≤ i by omega) hi2
    omega
  have a1 : (I.getD most.toNat Ev.z).v ≤ v + 1 := take_of (v + 1) most.toNat (by omega)
  have a2 : (I.getD 0 Ev.z).v ≤ v := take_of v 0 h0
  have hle : I.filter (le x) = I.filter (le v) := by
    refine List.filter_congr fun e he => ?_
    simp only [decide_eq_decide]
    refine ⟨fun c => by omega, fun c => ?_⟩
    rcases h with h | h
    · have := take_not v most.toNat (by omega) (by omega)
      omega
    · have := h e (List.mem_filter.2 ⟨he, by simpa using c⟩)
      omega
  have hwn : whN I most = (I.filter (le v)).length := by
    rw [hw, ← hle, ← take_upN I x hs, List.length_take]
    have := upN_le I x
    omega
  have ht : I.take (whN I most) = I.filter (le v) := by rw [hw, take_upN I x hs, hle]
  refine ⟨ht, ?_⟩
  rw [if_pos (by omega), ← ht, List.length_take, List.getD_eq_getElem?_getD, List.getD_eq_getElem?_getD, List.getElem?_take, if_pos (by omega)]
  rw [show min (whN I most) I.length - 1 = whN I most - 1 by omega]
/-- It runs to the end. -/
theorem since_end {s : St} (o : s.Ok) (ver : Int) (path : ByteArray) {most : Int} (h : Jn (inL s ver path) most s.hi) :
    sinL s ver path most = inL s ver path ∧ (inL s ver path).filter (le s.hi) = inL s ver path ∧ sinV s ver path most = s.hi := by
  have hs := inL_sorted o ver path
  have hr : ∀ e ∈ inL s ver path, e.v ≤ s.hi := fun e he => by rw [inL_eq o] at he; exact (o.r e (List.mem_filter.1 he).1).2
  unfold sinL sinV
  generalize inL s ver path = I at *
  have hf : I.filter (le s.hi) = I := by
    rw [List.filter_eq_self]
    intro e he; simpa using hr e he
  have hw : whN I most = I.length := by
    unfold whN
    split
    · rfl
    · rename_i q
      unfold Jn at h
      rw [hf] at h
      rcases h with h | h
      · omega
      · have hle : I.filter (le (max ((I.getD most.toNat Ev.z).v - 1) (I.getD 0 Ev.z).v)) = I := by
          rw [List.filter_eq_self]
          intro e he
          have := h e he
          exact decide_eq_true (by omega)
        have := take_upN I (max ((I.getD most.toNat Ev.z).v - 1) (I.getD 0 Ev.z).v) hs
        rw [hle] at this
        have h4 := congrArg List.length this
        rw [List.length_take] at h4
        have := upN_le I (max ((I.getD most.toNat Ev.z).v - 1) (I.getD 0 Ev.z).v)
        omega
  rw [hw, List.take_length, if_neg (by omega)]
  exact ⟨rfl, hf, rfl⟩
/-- What is kept is one. -/
theorem filter_len_mono (l : List Ev) {a b : Int} (h : a ≤ b) : (l.filter (gt b)).length ≤ (l.filter (gt a)).length := by
  induction l with
  | nil => exact Nat.le_refl _
  | cons x r ih =>
    by_cases q : b < x.v
    · rw [List.filter_cons_of_pos (by simpa using q), List.filter_cons_of_pos (by simp; omega)]
      simp only [List.length_cons]; omega
    · rw [List.filter_cons_of_neg (by simpa using q)]
      by_cases q2 : a < x.v
      · rw [List.filter_cons_of_pos (by simpa using q2)]; simp only [List.length_cons]; omega
      · rw [List.filter_cons_of_neg (by simpa using q2)]; exact ih
theorem kp_one {s s1 s2 : St} {l : List Ev} (h1 : Kp s l s1) (h2 : Kp s l s2) : s1 = s2 := by
  have hl : s1.lo = s2.lo := by
    rcases Int.lt_trichotomy s1.lo s2.lo with c | c | c
    · exfalso
      have h := filter_len_mono (s.es ++ l) (show s1.lo ≤ s2.lo - 1 by omega)
      have a := h1.n; rw [h1.es] at a
      have := h1.lo
      rcases h2.m with b | b <;> omega
    · exact c
    · exfalso
      have h := filter_len_mono (s.es ++ l) (show s2.lo ≤ s1.lo - 1 by omega)
      have a := h2.n; rw [h2.es] at a
      have := h2.lo
      rcases h1.m with b | b <;> omega
  have hh : s1.hi = s2.hi := by rw [h1.hi, h2.hi]
  have he : s1.es = s2.es := by rw [h1.es, h2.es, hl]
  cases s1; cases s2
  simp only at hl hh he
  rw [hl, hh, he]
end Wt
end Go.Proofs.YtfkoiehnkelpoaaDoor
