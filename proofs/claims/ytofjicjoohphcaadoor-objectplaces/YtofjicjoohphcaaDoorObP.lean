/-
  Keys and their places: what Unkey tells of a key, the law's within.
-/
import Derived.Test.YtofjicjoohphcaaDoorObK
import Derived.Test.YtofjicjoohphcaaDoorKRangeA
namespace Go.Proofs.YtofjicjoohphcaaDoor
open Go.RowKit
theorem keyR_ok {k : Int} {p n s : ByteArray} (h : keyR k p n = (s, 0)) : 0 ≤ k ∧ k ≤ 4 ∧ L.splitE p = 0 ∧ nmB k n = true ∧ K.makeR [letter k, p, n] = (s, 0) := by
  unfold keyR at h
  split at h
  · simp at h
  · rename_i h1
    split at h
    · rename_i h2
      split at h
      · rename_i h3
        exact ⟨by omega, by omega, h2, h3, h⟩
      · simp at h
    · simp at h
theorem makeR_err {ts : List ByteArray} (h : (K.makeR ts).2 ≠ 0) : (K.makeR ts).1 = ⟨#[]⟩ := by
  unfold K.makeR at h ⊢
  split
  · rfl
  · split
    · rfl
    · rename_i h1 h2; rw [if_neg h1, if_neg h2] at h; exact absurd rfl h
theorem keyR_err {k : Int} {p n : ByteArray} (h : (keyR k p n).2 ≠ 0) : (keyR k p n).1 = ⟨#[]⟩ := by
  unfold keyR at h ⊢
  repeat' split
  all_goals first | rfl | skip
  rename_i h1 h2 h3
  rw [if_neg h1, if_pos h2, if_pos h3] at h
  exact makeR_err h
theorem ix_letter (k : Int) (h : 0 ≤ k) (h4 : k ≤ 4) : ix (letter k) = k := by
  have : k = 0 ∨ k = 1 ∨ k = 2 ∨ k = 3 ∨ k = 4 := by omega
  rcases this with rfl | rfl | rfl | rfl | rfl <;> decide
theorem un_key {k : Int} {p n s : ByteArray} (h : keyR k p n = (s, 0)) : unR s = (k, p, n, 0) := by
  obtain ⟨h0, h4, h1, h2, h3⟩ := keyR_ok h
  have hs := K.split_make h3
  have hT : K.splitT s = [letter k, p, n] := by unfold K.splitT; rw [hs]; rfl
  have hE : K.splitE s = 0 := by unfold K.splitE; rw [hs]; rfl
  have e0 : pt s 0 = letter k := by unfold pt; rw [hT]; rfl
  have e1 : pt s 1 = p := by unfold pt; rw [hT]; rfl
  have e2 : pt s 2 = n := by unfold pt; rw [hT]; rfl
  have hu : unB s := ⟨hE, by rw [hT]; rfl, by rw [e0, e1, e2, ix_letter k h0 h4]; exact h⟩
  rw [unR_yes hu, e0, e1, e2, ix_letter k h0 h4]
theorem un_code (s : ByteArray) : (unR s).2.2.2 = 0 ∨ unR s = (0, ⟨#[]⟩, ⟨#[]⟩, 2) := by
  by_cases h : unB s
  · exact .inl (by rw [unR_yes h])
  · exact .inr (unR_no h)
theorem un_back {s : ByteArray} (h : (unR s).2.2.2 = 0) : keyR (unR s).1 (unR s).2.1 (unR s).2.2.1 = (s, 0) := by
  by_cases q : unB s
  · rw [unR_yes q]; exact q.2.2
  · rw [unR_no q] at h; simp at h
theorem un_size {s : ByteArray} (h : (unR s).2.2.2 = 0) : (unR s).2.1.size ≤ 120 ∧ (unR s).2.2.1.size ≤ 120 := by
  by_cases q : unB s
  · rw [unR_yes q]
    exact ⟨split_size (s := s) (K.mem_getD (by rw [q.2.1]; decide)), split_size (s := s) (K.mem_getD (by rw [q.2.1]; decide))⟩
  · rw [unR_no q] at h; simp at h
theorem key_size {ts : List ByteArray} {s : ByteArray} (h : K.makeR ts = (s, 0)) : s.size ≤ 120 ∧ s.data.toList = K.keyL ts := by
  obtain ⟨h1, h2, h3, h4⟩ := K.make_ok h
  subst h4
  have e := K.data_bytesOf (K.keyL ts)
  exact ⟨by have : (K.bytesOf (K.keyL ts)).data.toList.length = (K.bytesOf (K.keyL ts)).size := by simp
            rw [e] at this; omega, e⟩
/-- Whether a text lies in the range of parts. -/
def wiB (k : ByteArray) (ps : List ByteArray) : Bool := decide ((K.rangeR ps).2.2 = 0) && (!(K.bl k.toList (K.rangeR ps).1.toList) && K.bl k.toList (K.rangeR ps).2.1.toList)
theorem make_pre {ps qs : List ByteArray} {s : ByteArray} (h : K.makeR (ps ++ qs) = (s, 0)) (hp : ps ≠ []) : K.makeR ps = (K.bytesOf (K.keyL ps), 0) := by
  obtain ⟨h1, h2, h3, h4⟩ := K.make_ok h
  rw [K.keyL_app, List.length_append] at h3
  rw [List.length_append] at h2
  unfold K.makeR
  have : ps.length ≠ 0 := fun q => hp (List.length_eq_zero_iff.1 q)
  rw [if_neg (by omega), if_neg (by omega)]
  rfl
theorem wi_beg {ts ps qs : List ByteArray} {k s : ByteArray} (h : K.makeR ts = (k, 0)) (hp : K.makeR (ps ++ qs) = (s, 0)) (hne : ps ≠ []) : wiB k ps = K.begB ps ts := by
  have hk := key_size h
  have hm := make_pre hp hne
  unfold wiB
  rw [K.range_ok hm, ← K.in_range ps ts hne]
  simp only
  rw [decide_true, Bool.true_and, L.list_of_bytes, L.list_of_bytes, L.list_of_bytes, hk.2, K.data_bytesOf]
  congr 2
set_option maxHeartbeats 4000000 in
set_option maxRecDepth 100000 in
theorem lwithin_any (k : ByteArray) (v : Value) (ps : List ByteArray) (w : World) (hm : L.HasM w) (hv : K.Strs w v ps) (hs : ∀ t ∈ ps, t.size ≤ 140737488355328) :
    Calls Tryd.prog 12 #[.string k, v] w fun e w' => e = .returned (.bool (wiB k ps)) ∧ Below w.heap.size w w' := by
  have RA := Lib.hid (K.range_any v ps w (keyM hm) hv hs)
  obtain ⟨a, cap, rfl, _, _⟩ := hv.len
  clear hm hv hs
  go_enter Tryd.func12, Tryd.ntmps12
  go_wp2_with fail
  refine RA.out.mono ?_
  rintro e w1 ⟨rfl, hb⟩
  have B1 := Lib.hid hb
  obtain ⟨F, hF⟩ : ∃ F, F = (K.rangeR ps).1 := ⟨_, rfl⟩
  obtain ⟨T, hT⟩ : ∃ T, T = (K.rangeR ps).2.1 := ⟨_, rfl⟩
  obtain ⟨C, hC⟩ : ∃ C, C = (K.rangeR ps).2.2 := ⟨_, rfl⟩
  rw [← hF, ← hT, ← hC]
  have E0 : wiB k ps = (decide (C = 0) && (!(K.bl k.toList F.toList) && K.bl k.toList T.toList)) := by unfold wiB; rw [hF, hT, hC]
  clear hb RA hF hT hC
  by_cases hC : C = 0
  case neg =>
    have E : Aside (wiB k ps = false) := by show _ = _; rw [E0, decide_eq_false hC]; rfl
    have g : (C == 0) = false := by rw [beq_eq_false_iff_ne]; exact hC
    clear hC E0
    go_wp2_with fail
    go_ret
    exact ⟨by rw [E.out]; rfl, B1.out⟩
  subst hC
  cases q1 : Op.bytesLess k.toList F.toList with
  | true =>
    have E : Aside (wiB k ps = false) := by
      show _ = _
      have : K.bl k.toList F.toList = true := q1
      rw [E0, this]; simp
    have q2 : Op.bytesLess F.toList k.toList = false := K.bl_asymm _ _ q1
    have q3 : (F.toList == k.toList) = false := by
      rw [beq_eq_false_iff_ne]; intro q; rw [q] at q1; have h9 := K.bl_refl k.toList; exact absurd (q1.symm.trans h9) (by simp)
    clear E0 q1
    go_wp2_with fail
    go_ret
    exact ⟨by rw [E.out]; rfl, B1.out⟩
  | false =>
    have E : Aside (wiB k ps = Op.bytesLess k.toList T.toList) := by
      show _ = _
      have : K.bl k.toList F.toList = false := q1
      rw [E0, this]; simp
    clear E0
    by_cases hq : F.toList = k.toList
    · have q3 : (F.toList == k.toList) = true := by rw [beq_iff_eq]; exact hq
      have q2 : Op.bytesLess F.toList k.toList = false := by rw [hq]; exact K.bl_refl _
      clear hq q1
      go_wp2_with fail
      go_ret
      exact ⟨by rw [E.out]; rfl, B1.out⟩
    · have q2 : Op.bytesLess F.toList k.toList = true := by
        cases q : Op.bytesLess F.toList k.toList with
        | true => rfl
        | false => exact absurd (K.bl_total _ _ q q1) hq
      have q3 : (F.toList == k.toList) = false := by rw [beq_eq_false_iff_ne]; exact hq
      clear hq q1
      go_wp2_with fail
      go_ret
      exact ⟨by rw [E.out]; rfl, B1.out⟩
end Go.Proofs.YtofjicjoohphcaaDoor
