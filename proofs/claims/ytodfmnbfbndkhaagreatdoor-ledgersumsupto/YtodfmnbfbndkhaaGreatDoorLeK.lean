/-
  An object's shares are borne, and no place stands twice among them.
-/
import Derived.Test.YtodfmnbfbndkhaaGreatDoorLeC
namespace Go.Proofs.YtodfmnbfbndkhaaGreatDoor
open Go.RowKit
namespace Le
theorem line_nodup {ts : List ByteArray} (hg : L.Good ts) : (L.lineOf ts).Nodup := by
  unfold L.lineOf L.lineTo
  rw [List.Nodup, List.pairwise_map]
  refine List.Pairwise.imp_of_mem ?_ (List.pairwise_lt_range (n := ts.length + 1))
  intro i j hi hj hij e
  rw [List.mem_range] at hi hj
  have ha : (ts.take (ts.length - i)).all L.nameB = true := by
    rw [List.all_eq_true]
    intro x hx
    exact List.all_eq_true.1 hg.1 x (List.mem_of_mem_take hx)
  have h := L.pathL_take ha (ts.length - j) (by rw [List.length_take]; omega)
  rw [List.take_take, Nat.min_eq_left (by omega)] at h
  have e2 := congrArg ByteArray.size e
  rw [L.pth_size, L.pth_size] at e2
  omega
theorem lineP_nodup (p : ByteArray) : (lineP p).Nodup := by
  unfold lineP
  cases h : L.splitO p with
  | none => exact List.nodup_nil
  | some ts => exact line_nodup (L.splitO_some h).2
theorem lineP_size (p : ByteArray) : (lineP p).length ≤ 9 ∧ ∀ q ∈ lineP p, q.size ≤ 64 := by
  unfold lineP
  cases h : L.splitO p with
  | none => exact ⟨Nat.zero_le _, fun q hq => by simp at hq⟩
  | some ts =>
    obtain ⟨-, hg⟩ := L.splitO_some h
    refine ⟨?_, fun q hq => ?_⟩
    · show (L.lineTo ts (ts.length + 1)).length ≤ 9
      rw [L.lineTo_length]
      have := hg.2.1
      omega
    · simp only [L.lineOf, L.lineTo, List.mem_map, List.mem_range] at hq
      obtain ⟨j, hj, rfl⟩ := hq
      rw [L.pth_size]
      have h64 := hg.2.2
      by_cases hk : ts.length - j < ts.length
      · have := L.pathL_take hg.1 _ hk
        omega
      · have e : ts.take (ts.length - j) = ts := List.take_of_length_le (by omega)
        rw [e]
        exact h64
theorem canS_nodup (o : Ob) : (canS o).Nodup ∧ (canS o).length ≤ 4 ∧ ∀ s ∈ canS o, (0 ≤ s.1 ∧ s.1 ≤ 5) ∧ (0 ≤ s.2 ∧ s.2 ≤ 9) := by
  unfold canS
  by_cases h1 : onamB o.ps = true
  · rw [if_pos h1]
    by_cases h2 : 0 < o.dl
    · rw [if_pos h2]
      by_cases h3 : 0 ≤ o.pr ∧ o.pr ≤ 9
      · rw [if_pos h3]
        refine ⟨by simp, by simp, fun s hs => ?_⟩
        simp only [List.cons_append, List.nil_append, List.mem_cons, List.not_mem_nil, or_false] at hs
        rcases hs with rfl | rfl | rfl | rfl <;> simp <;> omega
      · rw [if_neg h3]
        refine ⟨by simp, by simp, fun s hs => ?_⟩
        simp only [List.append_nil, List.mem_cons, List.not_mem_nil, or_false] at hs
        rcases hs with rfl | rfl | rfl <;> simp
    · rw [if_neg h2]
      by_cases h3 : 0 ≤ o.pr ∧ o.pr ≤ 9
      · rw [if_pos h3]
        refine ⟨by simp, by simp, fun s hs => ?_⟩
        simp only [List.cons_append, List.nil_append, List.mem_cons, List.not_mem_nil, or_false] at hs
        rcases hs with rfl | rfl | rfl | rfl <;> simp <;> omega
      · rw [if_neg h3]
        refine ⟨by simp, by simp, fun s hs => ?_⟩
        simp only [List.append_nil, List.mem_cons, List.not_mem_nil, or_false] at hs
        rcases hs with rfl | rfl | rfl <;> simp
  · rw [if_neg h1]
    by_cases h2 : 0 < o.dl
    · rw [if_pos h2]
      by_cases h3 : 0 ≤ o.pr ∧ o.pr ≤ 9
      · rw [if_pos h3]
        refine ⟨by simp, by simp, fun s hs => ?_⟩
        simp only [List.cons_append, List.nil_append, List.mem_cons, List.not_mem_nil, or_false] at hs
        rcases hs with rfl | rfl | rfl | rfl <;> simp <;> omega
      · rw [if_neg h3]
        refine ⟨by simp, by simp, fun s hs => ?_⟩
        simp only [List.append_nil, List.mem_cons, List.not_mem_nil, or_false] at hs
        rcases hs with rfl | rfl | rfl <;> simp
    · rw [if_neg h2]
      by_cases h3 : 0 ≤ o.pr ∧ o.pr ≤ 9
      · rw [if_pos h3]
        refine ⟨by simp, by simp, fun s hs => ?_⟩
        simp only [List.cons_append, List.nil_append, List.mem_cons, List.not_mem_nil, or_false] at hs
        rcases hs with rfl | rfl | rfl | rfl <;> simp <;> omega
      · rw [if_neg h3]
        refine ⟨by simp, by simp, fun s hs => ?_⟩
        simp only [List.append_nil, List.mem_cons, List.not_mem_nil, or_false] at hs
        rcases hs with rfl | rfl | rfl <;> simp
theorem mem_shU {p : ByteArray} {s : Int × Int} {us : List Am} {e : Ky × Int} : e ∈ shU p s us ↔ ∃ u ∈ us, e = (⟨p, s.1, s.2, u.n⟩, u.v) := by
  unfold shU
  rw [List.mem_map]
  exact ⟨fun ⟨u, h1, h2⟩ => ⟨u, h1, h2.symm⟩, fun ⟨u, h1, h2⟩ => ⟨u, h1, h2.symm⟩⟩
theorem mem_shS {p : ByteArray} {sc : List (Int × Int)} {us : List Am} {e : Ky × Int} : e ∈ shS p sc us ↔ ∃ s ∈ sc, ∃ u ∈ us, e = (⟨p, s.1, s.2, u.n⟩, u.v) := by
  unfold shS
  rw [List.mem_flatMap]
  exact ⟨fun ⟨s, h1, h2⟩ => ⟨s, h1, mem_shU.1 h2⟩, fun ⟨s, h1, h2⟩ => ⟨s, h1, mem_shU.2 h2⟩⟩
theorem mem_shL {ln : List ByteArray} {sc : List (Int × Int)} {us : List Am} {e : Ky × Int} : e ∈ shL ln sc us ↔ ∃ p ∈ ln, ∃ s ∈ sc, ∃ u ∈ us, e = (⟨p, s.1, s.2, u.n⟩, u.v) := by
  unfold shL
  rw [List.mem_flatMap]
  exact ⟨fun ⟨p, h1, h2⟩ => ⟨p, h1, mem_shS.1 h2⟩, fun ⟨p, h1, h2⟩ => ⟨p, h1, mem_shS.2 h2⟩⟩
theorem shU_nodup (p : ByteArray) (s : Int × Int) {us : List Am} (h : (us.map (·.n)).Nodup) : ((shU p s us).map Prod.fst).Nodup := by
  unfold shU
  rw [List.map_map]
  rw [List.Nodup, List.pairwise_map] at h ⊢
  refine h.imp ?_
  intro a b hab e
  apply hab
  simp only [Function.comp, Ky.mk.injEq, true_and] at e
  exact e
theorem shS_nodup (p : ByteArray) {us : List Am} (h : (us.map (·.n)).Nodup) : ∀ {sc : List (Int × Int)}, sc.Nodup → ((shS p sc us).map Prod.fst).Nodup
  | [], _ => by simp [shS]
  | s :: r, hs => by
    rw [List.nodup_cons] at hs
    have e : shS p (s :: r) us = shU p s us ++ shS p r us := by simp [shS]
    rw [e, List.map_append, List.nodup_append]
    refine ⟨shU_nodup p s h, shS_nodup p h hs.2, ?_⟩
    rintro a ha b hb rfl
    obtain ⟨x, hx, rfl⟩ := List.mem_map.1 ha
    obtain ⟨y, hy, hxy⟩ := List.mem_map.1 hb
    obtain ⟨u, _, rfl⟩ := mem_shU.1 hx
    obtain ⟨s', hs', u', _, rfl⟩ := mem_shS.1 hy
    simp only [Ky.mk.injEq, true_and] at hxy
    apply hs.1
    have : s' = s := Prod.ext hxy.1 hxy.2.1
    rw [← this]
    exact hs'
theorem shL_nodup {us : List Am} (h : (us.map (·.n)).Nodup) {sc : List (Int × Int)} (hsc : sc.Nodup) : ∀ {ln : List ByteArray}, ln.Nodup → ((shL ln sc us).map Prod.fst).Nodup
  | [], _ => by simp [shL]
  | p :: r, hp => by
    rw [List.nodup_cons] at hp
    have e : shL (p :: r) sc us = shS p sc us ++ shL r sc us := by simp [shL]
    rw [e, List.map_append, List.nodup_append]
    refine ⟨shS_nodup p h hsc, shL_nodup h hsc hp.2, ?_⟩
    rintro a ha b hb rfl
    obtain ⟨x, hx, rfl⟩ := List.mem_map.1 ha
    obtain ⟨y, hy, hxy⟩ := List.mem_map.1 hb
    obtain ⟨s, _, u, _, rfl⟩ := mem_shS.1 hx
    obtain ⟨p', hp', s', _, u', _, rfl⟩ := mem_shL.1 hy
    simp only [Ky.mk.injEq] at hxy
    exact hp.1 (by rw [← hxy.1]; exact hp')
theorem shL_len (ln : List ByteArray) (sc : List (Int × Int)) (us : List Am) : (shL ln sc us).length = ln.length * (sc.length * us.length) := by
  have h1 : ∀ p, (shS p sc us).length = sc.length * us.length := by
    intro p
    induction sc with
    | nil => simp [shS]
    | cons s r ih =>
      have e : shS p (s :: r) us = shU p s us ++ shS p r us := by simp [shS]
      rw [e, List.length_append, ih, List.length_cons, Nat.succ_mul]
      simp [shU]
      omega
  induction ln with
  | nil => simp [shL]
  | cons p r ih =>
    have e : shL (p :: r) sc us = shS p sc us ++ shL r sc us := by simp [shL]
    rw [e, List.length_append, ih, h1, List.length_cons, Nat.succ_mul]
    omega
theorem uses_nodup (ps : List Pt) : ((usesL ps).map (·.n)).Nodup := by
  unfold usesL
  split
  · exact List.nodup_nil
  · split
    · exact List.nodup_nil
    · unfold outL
      rw [List.map_map]
      have h := nms_nodup (obEs ps)
      rw [List.Nodup, List.pairwise_map]
      refine List.Pairwise.imp ?_ h
      intro a b hab e
      apply hab
      simp only [Function.comp, ByteArray.mk.injEq] at e
      have := congrArg Array.toList e
      simpa using this
theorem uses_ok {ps : List Pt} (hz : PSz ps) : (usesL ps).length ≤ 4000000 ∧ ∀ u ∈ usesL ps, u.n.size ≤ 281474976710656 ∧ 0 ≤ u.v ∧ u.v ≤ MX := by
  unfold usesL
  split
  · exact ⟨Nat.zero_le _, fun u hu => by simp at hu⟩
  · rename_i h1
    split
    · exact ⟨Nat.zero_le _, fun u hu => by simp at hu⟩
    · rename_i h2
      refine ⟨?_, fun u hu => ?_⟩
      · rw [out_len]
        have := nms_len (obEs ps)
        have := hz.n
        omega
      · unfold outL at hu
        obtain ⟨nm, hn, rfl⟩ := List.mem_map.1 hu
        rw [mem_nms] at hn
        obtain ⟨e, he, rfl⟩ := List.mem_map.1 hn
        have hl := name_len hz e he
        have hpos := ob_pos (neg_pos (by simpa using h1))
        refine ⟨?_, Tot_pos hpos _, ?_⟩
        · show e.1.toArray.size ≤ _
          simpa using hl
        · refine Int.not_lt.1 (fun q => h2 ⟨e.1, ?_⟩)
          unfold maxA
          exact q
theorem shOk_any (o : Ob) (hz : PSz o.ps) : ShOk (shR o) := by
  obtain ⟨l1, l2⟩ := lineP_size o.p
  obtain ⟨c1, c2, c3⟩ := canS_nodup o
  obtain ⟨u1, u2⟩ := uses_ok hz
  refine ⟨shL_nodup (uses_nodup o.ps) c1 (lineP_nodup o.p), fun e he => ?_, ?_⟩
  · obtain ⟨p, hp, s, hs, u, hu, rfl⟩ := mem_shL.1 he
    have a := l2 p hp
    have bb := c3 s hs
    have c := u2 u hu
    refine ⟨⟨?_, ?_, ?_, ?_⟩, c.2⟩
    · show p.size ≤ maxLen; unfold maxLen; omega
    · show u.n.size ≤ maxLen; unfold maxLen; omega
    · show In6 s.1; exact ⟨by omega, by omega⟩
    · show In6 s.2; exact ⟨by omega, by omega⟩
  · show (shL _ _ _).length ≤ _
    rw [shL_len]
    have q1 : (canS o).length * (usesL o.ps).length ≤ 4 * 4000000 := Nat.mul_le_mul c2 u1
    have q2 : (lineP o.p).length * ((canS o).length * (usesL o.ps).length) ≤ 9 * (4 * 4000000) := Nat.mul_le_mul l1 q1
    omega
end Le
end Go.Proofs.YtodfmnbfbndkhaaGreatDoor
