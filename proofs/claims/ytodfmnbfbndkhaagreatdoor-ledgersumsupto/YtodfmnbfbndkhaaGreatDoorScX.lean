/-
  Uses of every object.
-/
import Derived.Test.YtodfmnbfbndkhaaGreatDoorScK
namespace Go.Proofs.YtodfmnbfbndkhaaGreatDoor
open Go.RowKit Go.Maps
open Classical in
/-- The error and the list that Uses tells. -/
noncomputable def usesE (ps : List Pt) : Int := if onegB ps = true then 1 else if Ov (obEs ps) then 7 else 0
open Classical in
noncomputable def usesL (ps : List Pt) : List Am := if onegB ps = true then [] else if Ov (obEs ps) then [] else outL (obEs ps)
/-- Sizes that are borne. -/
structure PSz (ps : List Pt) : Prop where
  n : (obEs ps).length ≤ 4000000
  s : ∀ p ∈ ps, (∀ x ∈ p.r, x.fit) ∧ (∀ x ∈ p.l, x.fit)
def tkEs (ps : List Pt) (k : Nat) : List En := obEs (ps.take k)
theorem tk_step (ps : List Pt) (k : Nat) (h : k < ps.length) : tkEs ps (k + 1) = tkEs ps k ++ pre tReq (ps.getD k ⟨⟨#[]⟩, [], []⟩).r ++ pre tLim (ps.getD k ⟨⟨#[]⟩, [], []⟩).l := by
  unfold tkEs obEs
  rw [take_onez ps k ⟨⟨#[]⟩, [], []⟩ h]
  simp [ptEs, List.append_assoc]
theorem tk_rest (ps : List Pt) (k : Nat) : obEs ps = tkEs ps k ++ (ps.drop k).flatMap ptEs := by
  unfold tkEs obEs
  rw [List.cons_append, ← List.flatMap_append, List.take_append_drop]
theorem tk_len (ps : List Pt) (k : Nat) : (tkEs ps k).length ≤ (obEs ps).length := by
  rw [tk_rest ps k, List.length_append]; omega
theorem neg_pos {ps : List Pt} (h : onegB ps = false) : ∀ p ∈ ps, (∀ x ∈ p.r, 0 ≤ x.v) ∧ (∀ x ∈ p.l, 0 ≤ x.v) := by
  intro p hp
  unfold onegB at h
  rw [List.any_eq_false] at h
  have h1 := h p hp
  simp only [pnegB, Bool.not_eq_true, Bool.or_eq_false_iff, List.any_eq_false] at h1
  refine ⟨fun x hx => ?_, fun x hx => ?_⟩
  · have q : ¬ x.v < 0 := of_decide_eq_false (h1.1 x hx); omega
  · have q : ¬ x.v < 0 := of_decide_eq_false (h1.2 x hx); omega
theorem flat_pos {ps : List Pt} (h : ∀ p ∈ ps, (∀ x ∈ p.r, 0 ≤ x.v) ∧ (∀ x ∈ p.l, 0 ≤ x.v)) : ∀ e ∈ ps.flatMap ptEs, 0 ≤ e.2 := by
  intro e he
  obtain ⟨p, hp, hq⟩ := List.mem_flatMap.1 he
  rcases List.mem_append.1 hq with q | q
  · exact pre_pos (h p hp).1 e q
  · exact pre_pos (h p hp).2 e q
theorem ob_pos {ps : List Pt} (h : ∀ p ∈ ps, (∀ x ∈ p.r, 0 ≤ x.v) ∧ (∀ x ∈ p.l, 0 ≤ x.v)) : ∀ e ∈ obEs ps, 0 ≤ e.2 := by
  intro e he
  rcases List.mem_cons.1 he with rfl | q
  · show (0 : Int) ≤ 1000; decide
  · exact flat_pos h e q
theorem ded_len (l : List (List UInt8)) : (ded l).length ≤ l.length := by
  induction l with
  | nil => simp [ded]
  | cons y r ih => rw [ded]; split <;> simp <;> omega
theorem nms_len (es : List En) : (nmsOf es).length ≤ es.length := by
  unfold nmsOf; rw [List.length_mergeSort]; have := ded_len (es.map Prod.fst); simpa using this
theorem out_len (es : List En) : (outL es).length = (nmsOf es).length := by simp [outL]
theorem out_at (es : List En) (k : Nat) (h : k < (nmsOf es).length) : (outL es).getD k kAm.z = ⟨⟨((nmsOf es).getD k []).toArray⟩, Tot es ((nmsOf es).getD k [])⟩ := by
  unfold outL
  rw [List.getD_eq_getElem?_getD, List.getElem?_map, List.getElem?_eq_getElem h, List.getD_eq_getElem?_getD, List.getElem?_eq_getElem h]; rfl
theorem first_fit {ps : List Pt} (hz : PSz ps) {p : Pt} (hp : p ∈ ps) {x : Am} (hx : x ∈ p.r ∨ x ∈ p.l) : x.n.size ≤ 140737488355328 ∧ x.v ≤ 9223372036854775807 := by
  rcases hx with q | q
  · exact ⟨((hz.s p hp).1 x q).1, ((hz.s p hp).1 x q).2.2⟩
  · exact ⟨((hz.s p hp).2 x q).1, ((hz.s p hp).2 x q).2.2⟩
theorem name_len {ps : List Pt} (hz : PSz ps) : ∀ e ∈ obEs ps, e.1.length ≤ 281474976710656 := by
  intro e he
  rcases List.mem_cons.1 he with rfl | q
  · show tCount.data.toList.length ≤ _; decide
  · obtain ⟨p, hp, hq⟩ := List.mem_flatMap.1 q
    rcases List.mem_append.1 hq with q | q
    all_goals
      obtain ⟨x, hx, rfl⟩ := List.mem_map.1 q
      have := (first_fit hz hp (x := x) (by first | exact Or.inl hx | exact Or.inr hx)).1
      simp only [List.length_append, Array.length_toList]
      have e1 : tReq.data.size = 9 := rfl
      have e2 : tLim.data.size = 7 := rfl
      have e3 : x.n.data.size = x.n.size := rfl
      omega
end Go.Proofs.YtodfmnbfbndkhaaGreatDoor
