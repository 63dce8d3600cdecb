/-
  Paths and their names: what is said of them without the program.
-/
import Derived.Test.YtodfmnbfbndkhaaGreatDoorLSplitA
import Derived.Lib.LastIndexByte
namespace Go.Proofs.YtodfmnbfbndkhaaGreatDoor.L
open Go.RowKit
/-- The path with these names. -/
def pth (ts : List ByteArray) : ByteArray := bytesOf (pathL ts)
def Good (ts : List ByteArray) : Prop := ts.all nameB = true ∧ ts.length ≤ 8 ∧ (pathL ts).length ≤ 64
theorem pth_data (ts : List ByteArray) : (pth ts).data.toList = pathL ts := by simp [pth, bytesOf]
theorem pth_size (ts : List ByteArray) : (pth ts).size = (pathL ts).length := by simp [pth, bytesOf, ByteArray.size]
theorem data_inj {s t : ByteArray} (h : s.data.toList = t.data.toList) : s = t := by rw [← bytesOf_data s, h, bytesOf_data]
theorem pathOf_cons (t : ByteArray) (r : List ByteArray) : pathOf (t :: r) = 47 :: (t.data.toList ++ pathOf r) := by simp [pathOf]
theorem pathOf_app (a b : List ByteArray) : pathOf (a ++ b) = pathOf a ++ pathOf b := by simp [pathOf]
theorem pathL_ne {ts : List ByteArray} (h : ts ≠ []) : pathL ts = pathOf ts := by unfold pathL; rw [if_neg h]
theorem pieces_back (l : List UInt8) : pathOf ((pieces 47 l).map bytesOf) = 47 :: l := by
  induction l with
  | nil => rfl
  | cons b l ih =>
    unfold pieces
    by_cases h : b = 47
    · rw [if_pos h, List.map_cons, pathOf_cons, ih, h]
      rfl
    · rw [if_neg h]
      cases hp : pieces 47 l with
      | nil => exact absurd hp (pieces_ne _ _)
      | cons p r =>
        rw [hp, List.map_cons, pathOf_cons] at ih
        rw [List.map_cons, pathOf_cons]
        simp only [List.headD_cons, List.tail_cons]
        have e : (bytesOf p).data.toList ++ pathOf (r.map bytesOf) = l := by simpa using ih
        rw [show (bytesOf (b :: p)).data.toList = b :: (bytesOf p).data.toList by simp [bytesOf], List.cons_append, e]
theorem splitO_some {p : ByteArray} {ts : List ByteArray} (h : splitO p = some ts) : p = pth ts ∧ Good ts := by
  unfold splitO at h
  split at h
  · cases h
    exact ⟨data_inj (by rw [pth_data]; assumption), rfl, by decide, by decide⟩
  · rename_i hr
    split at h
    · rename_i hc
      cases h
      obtain ⟨h1, h2, h3, h4⟩ := hc
      have hd : p.data.toList = 47 :: p.data.toList.tail := by
        cases hl : p.data.toList with
        | nil => rw [hl] at h1; cases h1
        | cons b l =>
          rw [hl] at h1
          have : b = 47 := by
            simp [Lib.hasPrefix] at h1
            exact h1.symm
          rw [this]
          rfl
      have hne : (pieces 47 p.data.toList.tail).map bytesOf ≠ [] := by
        intro e
        exact pieces_ne _ _ (List.map_eq_nil_iff.1 e)
      have e : pathL ((pieces 47 p.data.toList.tail).map bytesOf) = p.data.toList := by rw [pathL_ne hne, pieces_back]; exact hd.symm
      refine ⟨data_inj (by rw [pth_data, e]), h4, h3, ?_⟩
      rw [e]
      have : p.data.toList.length = p.size := by simp
      omega
    · cases h
theorem splitO_good {ts : List ByteArray} (h : Good ts) : splitO (pth ts) = some ts := by
  have := split_path ts h.1 h.2.1 h.2.2
  unfold splitE splitT at this
  change (if (splitO (pth ts)).isSome then (0 : Int) else 41) = 0 ∧ (splitO (pth ts)).getD [] = ts at this
  cases hs : splitO (pth ts) with
  | none => rw [hs] at this; exact absurd this.1 (by decide)
  | some us => rw [hs] at this; rw [← this.2]; rfl
theorem good_root : Good [] := ⟨rfl, by decide, by decide⟩
theorem name_pos {t : ByteArray} (h : nameB t = true) : 0 < t.data.toList.length := by
  unfold nameB at h
  simp only [Bool.and_eq_true, decide_eq_true_eq] at h
  simpa using h.1.1
theorem all_take {ts : List ByteArray} (h : ts.all nameB = true) (k : Nat) : (ts.take k).all nameB = true := by
  rw [List.all_eq_true] at h ⊢
  exact fun x hx => h x (List.mem_of_mem_take hx)
theorem pathOf_take_app (ts : List ByteArray) (k : Nat) : pathOf ts = pathOf (ts.take k) ++ pathOf (ts.drop k) := by rw [← pathOf_app, List.take_append_drop]
theorem pathOf_two {t : ByteArray} {r : List ByteArray} (h : nameB t = true) : 2 ≤ (pathOf (t :: r)).length := by
  rw [pathOf_cons, List.length_cons, List.length_append]
  have := name_pos h
  omega
theorem pathL_take {ts : List ByteArray} (h : ts.all nameB = true) (k : Nat) (hk : k < ts.length) : (pathL (ts.take k)).length < (pathL ts).length := by
  cases ts with
  | nil => simp at hk
  | cons t r =>
    have ht : nameB t = true := by rw [List.all_cons, Bool.and_eq_true] at h; exact h.1
    rw [pathL_ne (ts := t :: r) (by simp)]
    by_cases h0 : (t :: r).take k = []
    · rw [h0]
      have := pathOf_two (r := r) ht
      show 1 < _
      omega
    · rw [pathL_ne h0, pathOf_take_app (t :: r) k, List.length_append]
      have hd : (t :: r).drop k ≠ [] := by
        intro e
        have := congrArg List.length e
        rw [List.length_drop, List.length_nil] at this
        omega
      cases hdd : (t :: r).drop k with
      | nil => exact absurd hdd hd
      | cons u s => rw [pathOf_cons, List.length_cons]; omega
theorem Good.take {ts : List ByteArray} (h : Good ts) (k : Nat) : Good (ts.take k) := by
  refine ⟨all_take h.1 k, by rw [List.length_take]; have := h.2.1; omega, ?_⟩
  by_cases hk : k < ts.length
  · have := pathL_take h.1 k hk
    have := h.2.2
    omega
  · rw [List.take_of_length_le (by omega)]
    exact h.2.2
theorem pieces_cons (c b : UInt8) (l : List UInt8) : pieces c (b :: l) = if b = c then [] :: pieces c l else (b :: (pieces c l).headD []) :: (pieces c l).tail := rfl
theorem pieces_more (c : UInt8) (x l : List UInt8) : pieces c (x ++ c :: l) = pieces c x ++ pieces c l := by
  induction x with
  | nil =>
    rw [List.nil_append, pieces_cons, if_pos rfl]
    rfl
  | cons b x ih =>
    rw [List.cons_append, pieces_cons, pieces_cons]
    by_cases h : b = c
    · rw [if_pos h, if_pos h, ih]
      rfl
    · rw [if_neg h, if_neg h, ih]
      cases hp : pieces c x with
      | nil => exact absurd hp (pieces_ne _ _)
      | cons p r => rfl
theorem map_data_inj {a b : List ByteArray} (h : a.map (·.data.toList) = b.map (·.data.toList)) : a = b := by
  have := congrArg (List.map bytesOf) h
  rw [List.map_map, List.map_map] at this
  have e : (bytesOf ∘ fun x : ByteArray => x.data.toList) = id := by funext x; exact bytesOf_data x
  rwa [e, List.map_id, List.map_id] at this
/-- What Under asks of two texts. -/
def underB (a b : ByteArray) : Bool :=
  (splitO a).isSome && (splitO b).isSome && (decide (a.data.toList = b.data.toList) || decide (b.data.toList = [47]) || Lib.hasPrefix a.data.toList (b.data.toList ++ [47]))
theorem under_line {ts : List ByteArray} (hg : Good ts) (b : ByteArray) : underB (pth ts) b = true ↔ ∃ k, k ≤ ts.length ∧ b = pth (ts.take k) := by
  constructor
  · intro h
    unfold underB at h
    rw [splitO_good hg] at h
    simp only [Option.isSome_some, Bool.true_and, Bool.and_eq_true, Bool.or_eq_true, decide_eq_true_eq] at h
    obtain ⟨hb, h⟩ := h
    cases hs : splitO b with
    | none => rw [hs] at hb; cases hb
    | some us =>
      obtain ⟨rfl, hu⟩ := splitO_some hs
      rcases h with (h | h) | h
      · exact ⟨ts.length, Nat.le_refl _, by rw [List.take_length]; exact data_inj h.symm⟩
      · exact ⟨0, Nat.zero_le _, data_inj (by rw [h, pth_data]; rfl)⟩
      · rw [pth_data, pth_data] at h
        by_cases h0 : us = []
        · subst h0
          exact ⟨0, Nat.zero_le _, rfl⟩
        · rw [pathL_ne h0] at h
          have hts : ts ≠ [] := by
            intro e
            subst e
            cases us with
            | nil => exact h0 rfl
            | cons u r =>
              rw [pathOf_cons] at h
              unfold Lib.hasPrefix at h
              rw [List.isPrefixOf_iff_prefix] at h
              have := h.length_le
              rw [List.cons_append, List.length_cons, List.length_append, List.length_append] at this
              have := name_pos (show nameB u = true by have := hu.1; rw [List.all_cons, Bool.and_eq_true] at this; exact this.1)
              have e1 : (pathL []).length = 1 := rfl
              omega
          rw [pathL_ne hts] at h
          unfold Lib.hasPrefix at h
          rw [List.isPrefixOf_iff_prefix] at h
          obtain ⟨r, hr⟩ := h
          have e1 : (pathOf ts).tail = (pathOf us).tail ++ 47 :: r := by
            rw [← hr]
            cases us with
            | nil => exact absurd rfl h0
            | cons u us => rw [pathOf_cons]; simp
          have e2 := pieces_path ts hg.1 hts
          rw [e1, pieces_more, pieces_path us hu.1 h0] at e2
          have e3 : us.map (·.data.toList) = (ts.take us.length).map (·.data.toList) := by
            rw [List.map_take, ← e2]
            rw [List.take_left' (by simp)]
          refine ⟨us.length, ?_, by rw [← map_data_inj e3]⟩
          have := congrArg List.length e2
          rw [List.length_append, List.length_map, List.length_map] at this
          omega
  · rintro ⟨k, hk, rfl⟩
    unfold underB
    rw [splitO_good hg, splitO_good (hg.take k), pth_data, pth_data]
    simp only [Option.isSome_some, Bool.true_and, Bool.or_eq_true, decide_eq_true_eq]
    by_cases hlt : k < ts.length
    · by_cases h0 : ts.take k = []
      · exact Or.inl (Or.inr (by rw [h0]; rfl))
      · refine Or.inr ?_
        have hts : ts ≠ [] := by intro e; subst e; simp at h0
        rw [pathL_ne h0, pathL_ne hts, pathOf_take_app ts k]
        unfold Lib.hasPrefix
        rw [List.isPrefixOf_iff_prefix]
        cases hdd : ts.drop k with
        | nil =>
          have := congrArg List.length hdd
          rw [List.length_drop, List.length_nil] at this
          omega
        | cons u s => exact ⟨u.data.toList ++ pathOf s, by rw [pathOf_cons]; simp⟩
    · rw [List.take_of_length_le (by omega)]
      exact Or.inl (Or.inl rfl)
theorem under_up {ts : List ByteArray} (hg : Good ts) {k : Nat} (hk : k < ts.length) : underB (pth (ts.take k)) (pth ts) = false := by
  have hl := pathL_take hg.1 k hk
  have h2 : 2 ≤ (pathL ts).length := by
    have : 1 ≤ (pathL (ts.take k)).length := by
      unfold pathL
      split
      · decide
      · cases h : ts.take k with
        | nil => exact absurd h ‹_›
        | cons u s => rw [pathOf_cons]; simp
    omega
  unfold underB
  rw [pth_data, pth_data]
  have n1 : ¬ pathL (ts.take k) = pathL ts := fun e => by rw [e] at hl; omega
  have n2 : ¬ pathL ts = [47] := fun e => by rw [e] at h2; exact absurd h2 (by decide)
  have n3 : Lib.hasPrefix (pathL (ts.take k)) (pathL ts ++ [47]) = false := by
    unfold Lib.hasPrefix
    rw [Bool.eq_false_iff]
    intro h
    rw [List.isPrefixOf_iff_prefix] at h
    have := h.length_le
    rw [List.length_append] at this
    omega
  rw [decide_eq_false n1, decide_eq_false n2, n3]
  simp
theorem under_none {a b : ByteArray} (h : splitO a = none) : underB a b = false ∧ underB b a = false := by
  unfold underB
  rw [h]
  simp
/-- Where the last slash of a path stands. -/
theorem last_slash {ts : List ByteArray} (hg : ts.all nameB = true) (h : ts ≠ []) : Lib.lastIndexByte (pth ts) 47 = (pathOf ts.dropLast).length := by
  obtain ⟨t, ht⟩ : ∃ t, t = ts.getLast h := ⟨_, rfl⟩
  have hd : pathL ts = pathOf ts.dropLast ++ 47 :: t.data.toList := by
    rw [pathL_ne h]
    conv => lhs; rw [← List.dropLast_concat_getLast h]
    rw [pathOf_app, ← ht, pathOf_cons]
    simp [pathOf]
  have hnm : nameB t = true := by rw [List.all_eq_true] at hg; exact hg t (by rw [ht]; exact List.getLast_mem h)
  have hfree := name_free hnm
  have hs : (pth ts).size = (pathOf ts.dropLast).length + 1 + t.data.toList.length := by rw [pth_size, hd, List.length_append, List.length_cons]; omega
  have hat : ∀ j : Nat, ((pth ts).data[j]!) = (pathL ts)[j]! := by
    intro j
    have : (pth ts).data = (pathL ts).toArray := rfl
    rw [this]
    simp
  have hn : ((pth ts).data[(pathOf ts.dropLast).length]!) = 47 := by
    rw [hat, hd]
    simp
  have hbeh : ∀ j : Nat, (pathOf ts.dropLast).length < j → j < (pth ts).size → ((pth ts).data[j]!) ≠ 47 := by
    intro j h1 h2 h3
    rw [hat, hd] at h3
    apply hfree
    have hj : j - ((pathOf ts.dropLast).length + 1) < t.data.toList.length := by omega
    have e : (pathOf ts.dropLast ++ 47 :: t.data.toList)[j]! = t.data.toList[j - ((pathOf ts.dropLast).length + 1)]'hj := by
      have hlen : j < (pathOf ts.dropLast ++ 47 :: t.data.toList).length := by rw [List.length_append, List.length_cons]; omega
      rw [getElem!_pos _ j hlen, List.getElem_append_right (by omega)]
      obtain ⟨m, hm⟩ : ∃ m, j - (pathOf ts.dropLast).length = m + 1 := ⟨j - (pathOf ts.dropLast).length - 1, by omega⟩
      simp only [hm, List.getElem_cons_succ]
      congr 1
      omega
    rw [e] at h3
    rw [← h3]
    exact List.getElem_mem hj
  rcases Lib.lastIndexByte_spec (pth ts) 47 with ⟨_, hno⟩ | ⟨i, hi, e, hc, hno⟩
  · exact absurd (by rw [hn]; rfl) (hno (pathOf ts.dropLast).length (by omega))
  · rw [e]
    rcases Nat.lt_trichotomy i (pathOf ts.dropLast).length with h1 | h1 | h1
    · exact absurd (by rw [hn]; rfl) (hno _ h1 (by omega))
    · rw [h1]
    · have := hbeh i h1 hi
      have h9 : ((pth ts).data[i]!).toNat = 47 := by omega
      exact absurd (UInt8.toNat_inj.1 (h9.trans rfl)) this
theorem above_bytes {ts : List ByteArray} (h : ts ≠ []) : (pth ts).extract 0 (max (pathOf ts.dropLast).length 1) = pth ts.dropLast := by
  apply data_inj
  rw [Lib.extract_from_zero, pth_data, pth_data]
  have hd : pathL ts = pathOf ts.dropLast ++ 47 :: (ts.getLast h).data.toList := by
    rw [pathL_ne h]
    conv => lhs; rw [← List.dropLast_concat_getLast h]
    rw [pathOf_app, pathOf_cons]
    simp [pathOf]
  rw [hd]
  by_cases h0 : ts.dropLast = []
  · rw [h0]
    rfl
  · rw [pathL_ne h0]
    have : 1 ≤ (pathOf ts.dropLast).length := by
      cases hh : ts.dropLast with
      | nil => exact absurd hh h0
      | cons u s => rw [pathOf_cons]; simp
    rw [show max (pathOf ts.dropLast).length 1 = (pathOf ts.dropLast).length by omega, List.take_left]
end Go.Proofs.YtodfmnbfbndkhaaGreatDoor.L
