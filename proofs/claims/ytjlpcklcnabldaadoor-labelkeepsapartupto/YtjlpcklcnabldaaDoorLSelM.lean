/-
  A selector's text: terms written and read, over lists of bytes.
-/
import Derived.Lib.SplitLaws
import Derived.Lib.IndexBytes
import Derived.Lib.CutLaws
import Derived.Lib.Join
import Derived.Lib.Strings
namespace Go.Proofs.YtjlpcklcnabldaaDoor.L
/-- Lists joined by a byte. -/
def jn (c : UInt8) : List (List UInt8) → List UInt8
  | [] => []
  | [x] => x
  | x :: y :: r => x ++ c :: jn c (y :: r)
theorem join_jn (c : UInt8) (xs : List (List UInt8)) : Lib.join xs [c] = jn c xs := by
  unfold Lib.join
  induction xs with
  | nil => rfl
  | cons x r ih =>
    cases r with
    | nil => simp [jn, List.intercalate]
    | cons y r =>
      rw [jn, ← ih]
      simp [List.intercalate]
theorem jn_cons (c : UInt8) (x : List UInt8) (r : List (List UInt8)) (h : r ≠ []) : jn c (x :: r) = x ++ c :: jn c r := by
  cases r with
  | nil => exact absurd rfl h
  | cons y r => rfl
theorem jn_len (c : UInt8) (xs : List (List UInt8)) : xs.length ≤ (jn c xs).length + 1 := by
  induction xs with
  | nil => simp
  | cons x r ih =>
    cases r with
    | nil => simp
    | cons y r =>
      rw [jn, List.length_append, List.length_cons, List.length_cons]
      rw [List.length_cons] at ih ⊢
      omega
theorem jn_mem (c d : UInt8) (xs : List (List UInt8)) (hd : d ≠ c) (h : ∀ x ∈ xs, d ∉ x) : d ∉ jn c xs := by
  induction xs with
  | nil => simp [jn]
  | cons x r ih =>
    have hx := h x (by simp)
    have hr := ih fun y hy => h y (by simp [hy])
    cases r with
    | nil => exact hx
    | cons y r =>
      rw [jn, List.mem_append, List.mem_cons]
      rintro (h1 | h1 | h1)
      · exact hx h1
      · exact hd h1
      · exact hr h1
theorem ix_free (c : UInt8) (a : List UInt8) (h : c ∉ a) : Lib.index a [c] = -1 := by
  rw [Lib.index_one]
  induction a with
  | nil => rfl
  | cons b a ih =>
    rw [List.mem_cons, not_or] at h
    unfold Lib.indexByte
    rw [if_neg (by rw [beq_iff_eq]; exact fun e => h.1 e.symm), ih h.2]
    rfl
theorem ix_app (c : UInt8) (a l : List UInt8) (h : c ∉ a) : Lib.index (a ++ c :: l) [c] = a.length := by
  rw [Lib.index_one]
  induction a with
  | nil =>
    rw [List.nil_append, Lib.indexByte, if_pos (by simp)]
    rfl
  | cons b a ih =>
    rw [List.mem_cons, not_or] at h
    rw [List.cons_append, Lib.indexByte, if_neg (by rw [beq_iff_eq]; exact fun e => h.1 e.symm), ih h.2, if_neg (by rw [beq_iff_eq]; omega), List.length_cons]
    rfl
theorem at_first (c : UInt8) (s : List UInt8) (h : c ∈ s) : ∃ a l, s = a ++ c :: l ∧ c ∉ a := by
  induction s with
  | nil => simp at h
  | cons b s ih =>
    by_cases e : b = c
    · exact ⟨[], s, by rw [e]; rfl, by simp⟩
    · rw [List.mem_cons] at h
      rcases h with h | h
      · exact absurd h.symm e
      · obtain ⟨a, l, rfl, ha⟩ := ih h
        exact ⟨b :: a, l, rfl, by rw [List.mem_cons, not_or]; exact ⟨fun h => e h.symm, ha⟩⟩
theorem spl_hit (c : UInt8) (k : Nat) (a l : List UInt8) (h : c ∉ a) : Lib.splitK [c] 0 (k + 1) (a ++ c :: l) = a :: Lib.splitK [c] 0 k l := by
  have hi := ix_app c a l h
  have hd : (a ++ c :: l).drop (a.length + [c].length) = l := by
    rw [List.length_singleton, ← List.drop_drop]
    simp
  rw [Lib.splitK, if_neg (by rw [hi, beq_iff_eq]; omega), hi, Int.toNat_natCast, hd]
  simp
theorem spl_miss (c : UInt8) (k : Nat) (a : List UInt8) (h : c ∉ a) : Lib.splitK [c] 0 k a = [a] := by
  cases k with
  | zero => rfl
  | succ k => rw [Lib.splitK, ix_free c a h]; rfl
theorem spl_ne (c : UInt8) (k : Nat) (s : List UInt8) : Lib.splitK [c] 0 k s ≠ [] := by
  cases k with
  | zero => simp [Lib.splitK]
  | succ k => rw [Lib.splitK]; split <;> simp
theorem jn_spl (c : UInt8) (k : Nat) (s : List UInt8) : jn c (Lib.splitK [c] 0 k s) = s := by
  induction k generalizing s with
  | zero => rfl
  | succ k ih =>
    by_cases h : c ∈ s
    · obtain ⟨a, l, rfl, ha⟩ := at_first c s h
      rw [spl_hit c k a l ha, jn_cons c a _ (spl_ne c k l), ih]
    · rw [spl_miss c _ s h]; rfl
theorem spl_jn (c : UInt8) (k : Nat) (xs : List (List UInt8)) (h0 : xs ≠ []) (hk : xs.length ≤ k + 1) (h : ∀ x ∈ xs, c ∉ x) : Lib.splitK [c] 0 k (jn c xs) = xs := by
  induction xs generalizing k with
  | nil => exact absurd rfl h0
  | cons x r ih =>
    cases r with
    | nil => exact spl_miss c k x (h x (by simp))
    | cons y r =>
      cases k with
      | zero => simp at hk
      | succ k =>
        rw [jn, spl_hit c k x _ (h x (by simp)), ih k (by simp) (by simpa using hk) fun z hz => h z (by simp [hz])]
/-- At most nine pieces. -/
def spl9 (c : UInt8) (s : List UInt8) : List (List UInt8) := Lib.splitK [c] 0 (min 9 (s.length + 1) - 1) s
theorem jn_spl9 (c : UInt8) (s : List UInt8) : jn c (spl9 c s) = s := jn_spl c _ s
theorem spl9_jn (c : UInt8) (xs : List (List UInt8)) (h0 : xs ≠ []) (hk : xs.length ≤ 9) (h : ∀ x ∈ xs, c ∉ x) : spl9 c (jn c xs) = xs := by
  have := jn_len c xs
  exact spl_jn c _ xs h0 (by omega) h
/-- What Cut tells. -/
theorem cut_true {s p : List UInt8} (h : (Lib.cut s p).2.2 = true) : s = (Lib.cut s p).1 ++ (p ++ (Lib.cut s p).2.1) := by
  unfold Lib.cut at *
  by_cases h0 : 0 ≤ Lib.index s p
  · rw [if_pos h0] at *
    obtain ⟨i, hi, ho⟩ : ∃ i : Nat, Lib.index s p = (i : Int) ∧ Lib.occAt s p i = true := by
      rcases Lib.index_spec s p with ⟨e, _⟩ | ⟨i, e, _, ho, _⟩
      · rw [e] at h0; exact absurd h0 (by decide)
      · exact ⟨i, e, ho⟩
    rw [hi]
    simp only [Int.toNat_natCast]
    unfold Lib.occAt at ho
    rw [List.isPrefixOf_iff_prefix] at ho
    obtain ⟨r, hr⟩ := ho
    have e : s.drop (i + p.length) = r := by
      rw [← List.drop_drop, ← hr]
      simp
    rw [e, hr, List.take_append_drop]
  · rw [if_neg h0] at h
    cases h
theorem cut_false {s p : List UInt8} (h : ∀ a b, s ≠ a ++ (p ++ b)) : Lib.cut s p = (s, [], false) := by
  have : Lib.index s p = -1 := Lib.index_none fun j _ => by
    cases ho : Lib.occAt s p j with
    | false => rfl
    | true =>
      unfold Lib.occAt at ho
      rw [List.isPrefixOf_iff_prefix] at ho
      obtain ⟨r, hr⟩ := ho
      exact absurd (by rw [hr, List.take_append_drop]) (h (s.take j) r)
  unfold Lib.cut
  rw [this]
  rfl
theorem cut_at {p a b : List UInt8} (h : ∀ c d, a ++ (p ++ b) = c ++ (p ++ d) → a.length ≤ c.length) : Lib.cut (a ++ (p ++ b)) p = (a, b, true) := by
  have : Lib.index (a ++ (p ++ b)) p = (a.length : Int) := by
    refine Lib.index_first (by simp) ?_ ?_
    · unfold Lib.occAt
      rw [List.isPrefixOf_iff_prefix]
      exact ⟨b, by simp⟩
    · intro j hj
      cases ho : Lib.occAt (a ++ (p ++ b)) p j with
      | false => rfl
      | true =>
        unfold Lib.occAt at ho
        rw [List.isPrefixOf_iff_prefix] at ho
        obtain ⟨r, hr⟩ := ho
        have h2 := h ((a ++ (p ++ b)).take j) r (by rw [hr, List.take_append_drop])
        rw [List.length_take] at h2
        omega
  unfold Lib.cut
  rw [this, if_pos (by omega), Int.toNat_natCast]
  simp [← List.drop_drop]
/-- A text that begins with a byte that the head has not is found first behind the head. -/
theorem cut_head {c : UInt8} {q a b : List UInt8} (h : c ∉ a) : Lib.cut (a ++ ((c :: q) ++ b)) (c :: q) = (a, b, true) := by
  refine cut_at fun d e hd => ?_
  rcases Nat.lt_or_ge d.length a.length with hl | hl
  · exfalso
    apply h
    have h1 : (a ++ ((c :: q) ++ b))[d.length]? = some c := by rw [hd]; simp
    rw [List.getElem?_append_left hl] at h1
    exact List.mem_of_getElem? h1
  · exact hl
theorem cut_none {c : UInt8} {p s : List UInt8} (hc : c ∈ p) (h : c ∉ s) : Lib.cut s p = (s, [], false) :=
  cut_false fun a b e => h (by rw [e]; simp [hc])
theorem one_place {c : UInt8} {a b d e : List UInt8} (h : a ++ c :: b = d ++ c :: e) (ha : c ∉ a) (hb : c ∉ b) : a = d ∧ b = e := by
  induction a generalizing d with
  | nil =>
    cases d with
    | nil => simpa using h
    | cons x d =>
      simp only [List.nil_append, List.cons_append, List.cons.injEq] at h
      exfalso
      apply hb
      rw [h.2]
      simp
  | cons x a ih =>
    cases d with
    | nil =>
      simp only [List.nil_append, List.cons_append, List.cons.injEq] at h
      exact absurd h.1 fun e => ha (by simp [e])
    | cons y d =>
      simp only [List.cons_append, List.cons.injEq] at h
      obtain ⟨h1, h2⟩ := ih h.2 (fun hm => ha (by simp [hm]))
      exact ⟨by rw [h.1, h1], h2⟩
def WI : List UInt8 := [32, 105, 110, 32, 40]
def WO : List UInt8 := [32, 110, 111, 116, 105, 110, 32, 40]
/-- The one is not in the other. -/
theorem wi_wo {k j : List UInt8} (hk : 40 ∉ k) (hj : 40 ∉ j) : Lib.cut (k ++ (WO ++ j)) WI = (k ++ (WO ++ j), [], false) := by
  refine cut_false fun a b e => ?_
  have e2 : (k ++ [32, 110, 111, 116, 105, 110, 32]) ++ 40 :: j = (a ++ [32, 105, 110, 32]) ++ 40 :: b := by simpa [WI, WO] using e
  have hn : (40 : UInt8) ∉ (k ++ [32, 110, 111, 116, 105, 110, 32]) := by
    rw [List.mem_append, not_or]
    exact ⟨hk, by decide⟩
  have h := (one_place e2 hn hj).1
  have h3 : (k ++ [32, 110, 111]) ++ [116, 105, 110, 32] = a ++ [32, 105, 110, 32] := by simpa using h
  have h4 := (List.append_inj' h3 rfl).2
  simp at h4
/-- A term: its key, how, its values. -/
structure T3 where
  key : List UInt8
  how : Int
  vs : List (List UInt8)
def wv3 (x : T3) (one more : List UInt8) : List UInt8 := if x.vs.length = 1 then x.key ++ (one ++ x.vs.headD []) else x.key ++ (more ++ (jn 32 x.vs ++ [41]))
def wr3 (x : T3) : List UInt8 :=
  if x.how = 2 then x.key else if x.how = 3 then 33 :: x.key else if x.how = 0 then wv3 x [61] WI else wv3 x [33, 61] WO
def rl3 (key : List UInt8) (how : Int) (list : List UInt8) : Option T3 :=
  if Lib.hasSuffix list [41] = true ∧ 2 ≤ (spl9 32 (Lib.trimSuffix list [41])).length then some ⟨key, how, spl9 32 (Lib.trimSuffix list [41])⟩ else none
def rd3 (s : List UInt8) : Option T3 :=
  if Lib.hasPrefix s [33] = true then some ⟨Lib.trimPrefix s [33], 3, []⟩
  else if (Lib.cut s WI).2.2 = true then rl3 (Lib.cut s WI).1 0 (Lib.cut s WI).2.1
  else if (Lib.cut s WO).2.2 = true then rl3 (Lib.cut s WO).1 1 (Lib.cut s WO).2.1
  else if (Lib.cut s [33, 61]).2.2 = true then some ⟨(Lib.cut s [33, 61]).1, 1, [(Lib.cut s [33, 61]).2.1]⟩
  else if (Lib.cut s [61]).2.2 = true then some ⟨(Lib.cut s [61]).1, 0, [(Lib.cut s [61]).2.1]⟩
  else some ⟨s, 2, []⟩
theorem suffix_one {l : List UInt8} {c : UInt8} (h : Lib.hasSuffix l [c] = true) : l = Lib.trimSuffix l [c] ++ [c] := by
  unfold Lib.trimSuffix
  rw [if_pos h]
  unfold Lib.hasSuffix at h
  rw [List.isSuffixOf_iff_suffix] at h
  obtain ⟨r, rfl⟩ := h
  simp
theorem rl3_wr {k l : List UInt8} {h : Int} {x : T3} (e : rl3 k h l = some x) : x.key = k ∧ x.how = h ∧ 2 ≤ x.vs.length ∧ jn 32 x.vs ++ [41] = l := by
  unfold rl3 at e
  split at e
  · rename_i hc
    injection e with e
    subst e
    exact ⟨rfl, rfl, hc.2, by rw [jn_spl9]; exact (suffix_one hc.1).symm⟩
  · cases e
theorem rd3_wr {s : List UInt8} {x : T3} (e : rd3 s = some x) : wr3 x = s := by
  unfold rd3 at e
  split at e
  · rename_i h
    injection e with e
    subst e
    unfold wr3
    simp only [show ¬ ((3 : Int) = 2) by decide, if_false, if_true]
    unfold Lib.trimPrefix
    rw [if_pos h]
    unfold Lib.hasPrefix at h
    rw [List.isPrefixOf_iff_prefix] at h
    obtain ⟨r, rfl⟩ := h
    rfl
  split at e
  · rename_i _ h
    obtain ⟨h1, h2, h3, h4⟩ := rl3_wr e
    have hc := cut_true h
    unfold wr3 wv3
    rw [h2, if_neg (by decide), if_neg (by decide), if_pos rfl, if_neg (by omega), h4, h1]
    exact hc.symm
  split at e
  · rename_i _ _ h
    obtain ⟨h1, h2, h3, h4⟩ := rl3_wr e
    have hc := cut_true h
    unfold wr3 wv3
    rw [h2, if_neg (by decide), if_neg (by decide), if_neg (by decide), if_neg (by omega), h4, h1]
    exact hc.symm
  split at e
  · rename_i _ _ _ h
    injection e with e
    subst e
    exact (cut_true h).symm
  split at e
  · rename_i _ _ _ _ h
    injection e with e
    subst e
    exact (cut_true h).symm
  · injection e with e
    subst e
    rfl
/-- None of the marks of a selector. -/
def Clean (l : List UInt8) : Prop := 32 ∉ l ∧ 33 ∉ l ∧ 40 ∉ l ∧ 41 ∉ l ∧ 44 ∉ l ∧ 61 ∉ l
def Ok3 (x : T3) : Prop :=
  x.key ≠ [] ∧ Clean x.key ∧ (∀ v ∈ x.vs, Clean v) ∧ (((x.how = 0 ∨ x.how = 1) ∧ 1 ≤ x.vs.length ∧ x.vs.length ≤ 8) ∨ ((x.how = 2 ∨ x.how = 3) ∧ x.vs = []))
theorem prefix_none {c : UInt8} {l : List UInt8} (h : c ∉ l) : Lib.hasPrefix l [c] = false := by
  cases e : Lib.hasPrefix l [c] with
  | false => rfl
  | true =>
    unfold Lib.hasPrefix at e
    rw [List.isPrefixOf_iff_prefix] at e
    obtain ⟨r, rfl⟩ := e
    simp at h
theorem suffix_is (l : List UInt8) (c : UInt8) : Lib.hasSuffix (l ++ [c]) [c] = true ∧ Lib.trimSuffix (l ++ [c]) [c] = l := by
  have h : Lib.hasSuffix (l ++ [c]) [c] = true := by
    unfold Lib.hasSuffix
    rw [List.isSuffixOf_iff_suffix]
    exact ⟨l, rfl⟩
  refine ⟨h, ?_⟩
  unfold Lib.trimSuffix
  rw [if_pos h]
  simp
theorem rl3_is (k : List UInt8) (h : Int) (vs : List (List UInt8)) (h2 : 2 ≤ vs.length) (h8 : vs.length ≤ 8) (hv : ∀ v ∈ vs, 32 ∉ v) : rl3 k h (jn 32 vs ++ [41]) = some ⟨k, h, vs⟩ := by
  obtain ⟨e1, e2⟩ := suffix_is (jn 32 vs) 41
  unfold rl3
  rw [e1, e2, spl9_jn 32 vs (by intro e; rw [e] at h2; simp at h2) (by omega) hv, if_pos ⟨rfl, h2⟩]
theorem prefix_head {c : UInt8} {a l : List UInt8} (h : c ∉ a) (h0 : a ≠ []) : Lib.hasPrefix (a ++ l) [c] = false := by
  cases a with
  | nil => exact absurd rfl h0
  | cons b a =>
    rw [List.mem_cons, not_or] at h
    simp [Lib.hasPrefix, List.isPrefixOf, h.1]
theorem wr3_rd {x : T3} (h : Ok3 x) : rd3 (wr3 x) = some x := by
  obtain ⟨k, how, vs⟩ := x
  obtain ⟨h0, hk, hv, h⟩ := h
  simp only at h0 hk hv h
  rcases h with ⟨hh, h1, h8⟩ | ⟨hh, rfl⟩
  · by_cases one : vs.length = 1
    · obtain ⟨v, rfl⟩ : ∃ v, vs = [v] := by
        cases vs with
        | nil => simp at one
        | cons v r =>
          cases r with
          | nil => exact ⟨v, rfl⟩
          | cons _ _ => simp at one
      have hcv := hv v (by simp)
      have n1 : ∀ c : UInt8, c ∉ k → c ≠ 61 → c ∉ v → c ∉ k ++ ([61] ++ v) := by
        intro c a b d
        simp only [List.mem_append, List.mem_singleton, not_or]
        exact ⟨a, b, d⟩
      rcases hh with rfl | rfl
      · have e : wr3 ⟨k, 0, [v]⟩ = k ++ ([61] ++ v) := rfl
        rw [e]
        unfold rd3
        rw [prefix_head hk.2.1 h0, cut_none (c := 32) (p := WI) (by decide) (n1 32 hk.1 (by decide) hcv.1), cut_none (c := 32) (p := WO) (by decide) (n1 32 hk.1 (by decide) hcv.1), cut_none (c := 33) (p := [33, 61]) (by decide) (n1 33 hk.2.1 (by decide) hcv.2.1), cut_head (q := []) hk.2.2.2.2.2]
        rfl
      · have e : wr3 ⟨k, 1, [v]⟩ = k ++ ([33, 61] ++ v) := rfl
        have n2 : (32 : UInt8) ∉ k ++ ([33, 61] ++ v) := by
          simp only [List.mem_append, List.mem_cons, List.not_mem_nil, not_or]
          exact ⟨hk.1, ⟨by decide, by decide, by simp⟩, hcv.1⟩
        rw [e]
        unfold rd3
        rw [prefix_head hk.2.1 h0, cut_none (c := 32) (p := WI) (by decide) n2, cut_none (c := 32) (p := WO) (by decide) n2, cut_head (q := [61]) hk.2.1]
        rfl
    · have h2 : 2 ≤ vs.length := by omega
      have hj : ∀ c : UInt8, c ≠ 32 → c ≠ 41 → (∀ v ∈ vs, c ∉ v) → c ∉ jn 32 vs ++ [41] := by
        intro c a b d
        simp only [List.mem_append, List.mem_singleton, not_or]
        exact ⟨jn_mem 32 c vs a d, b⟩
      rcases hh with rfl | rfl
      · have e : wr3 ⟨k, 0, vs⟩ = k ++ (WI ++ (jn 32 vs ++ [41])) := by
          unfold wr3 wv3
          simp [one]
        rw [e]
        unfold rd3
        rw [prefix_head hk.2.1 h0]
        have hc : Lib.cut (k ++ (WI ++ (jn 32 vs ++ [41]))) WI = (k, jn 32 vs ++ [41], true) := cut_head (c := 32) (q := [105, 110, 32, 40]) hk.1
        rw [hc]
        exact rl3_is k 0 vs h2 h8 fun v hm => (hv v hm).1
      · have e : wr3 ⟨k, 1, vs⟩ = k ++ (WO ++ (jn 32 vs ++ [41])) := by
          unfold wr3 wv3
          simp [one]
        rw [e]
        unfold rd3
        rw [prefix_head hk.2.1 h0, wi_wo hk.2.2.1 (hj 40 (by decide) (by decide) fun v hm => (hv v hm).2.2.1)]
        have hc : Lib.cut (k ++ (WO ++ (jn 32 vs ++ [41]))) WO = (k, jn 32 vs ++ [41], true) := cut_head (c := 32) (q := [110, 111, 116, 105, 110, 32, 40]) hk.1
        rw [hc]
        exact rl3_is k 1 vs h2 h8 fun v hm => (hv v hm).1
  · rcases hh with rfl | rfl
    · have e : wr3 ⟨k, 2, []⟩ = k := rfl
      rw [e]
      unfold rd3
      rw [prefix_none hk.2.1, cut_none (c := 32) (p := WI) (by decide) hk.1, cut_none (c := 32) (p := WO) (by decide) hk.1, cut_none (c := 33) (p := [33, 61]) (by decide) hk.2.1, cut_none (c := 61) (p := [61]) (by decide) hk.2.2.2.2.2]
      rfl
    · have e : wr3 ⟨k, 3, []⟩ = 33 :: k := rfl
      rw [e]
      unfold rd3
      have e2 : Lib.hasPrefix (33 :: k) [33] = true := by simp [Lib.hasPrefix]
      rw [if_pos e2]
      unfold Lib.trimPrefix
      rw [if_pos e2]
      rfl
/-- What is written has no comma. -/
theorem wr3_comma {x : T3} (h : Ok3 x) : 44 ∉ wr3 x := by
  obtain ⟨k, how, vs⟩ := x
  obtain ⟨h0, hk, hv, h⟩ := h
  simp only at h0 hk hv h
  have hkk := hk.2.2.2.2.1
  have hj : (44 : UInt8) ∉ jn 32 vs := jn_mem 32 44 vs (by decide) fun v hm => (hv v hm).2.2.2.2.1
  have hh : (44 : UInt8) ∉ vs.head?.getD [] := by
    cases vs with
    | nil => simp
    | cons v r => exact (hv v (by simp)).2.2.2.2.1
  unfold wr3 wv3 WI WO
  split
  · exact hkk
  split
  · rw [List.mem_cons, not_or]; exact ⟨by decide, hkk⟩
  split <;> split <;> simp [hkk, hj, hh]
theorem wr3_ne {x : T3} (h : Ok3 x) : wr3 x ≠ [] := by
  have h0 := h.1
  unfold wr3 wv3
  split
  · exact h0
  split
  · simp
  split <;> split <;> simp
def pr3 (xs : List T3) : List UInt8 := jn 44 (xs.map wr3)
def all3 : List (List UInt8) → Option (List T3)
  | [] => some []
  | s :: r => match rd3 s, all3 r with
    | some x, some xs => some (x :: xs)
    | _, _ => none
theorem all3_wr : ∀ {ps : List (List UInt8)} {xs : List T3}, all3 ps = some xs → xs.map wr3 = ps
  | [], xs, h => by
    injection h with h
    subst h
    rfl
  | s :: r, xs, h => by
    unfold all3 at h
    cases h1 : rd3 s with
    | none => rw [h1] at h; cases h
    | some x =>
      cases h2 : all3 r with
      | none => rw [h1, h2] at h; cases h
      | some ys =>
        rw [h1, h2] at h
        injection h with h
        subst h
        rw [List.map_cons, rd3_wr h1, all3_wr h2]
theorem wr_all3 : ∀ {xs : List T3}, (∀ x ∈ xs, Ok3 x) → all3 (xs.map wr3) = some xs
  | [], _ => rfl
  | x :: r, h => by
    rw [List.map_cons, all3, wr3_rd (h x (by simp)), wr_all3 fun y hy => h y (by simp [hy])]
theorem pr3_spl {xs : List T3} (h0 : xs ≠ []) (h8 : xs.length ≤ 8) (h : ∀ x ∈ xs, Ok3 x) : spl9 44 (pr3 xs) = xs.map wr3 := by
  refine spl9_jn 44 _ (by simpa using h0) (by rw [List.length_map]; omega) ?_
  intro s hs
  obtain ⟨x, hx, rfl⟩ := List.mem_map.1 hs
  exact wr3_comma (h x hx)
theorem pr3_ne {xs : List T3} (h0 : xs ≠ []) (h : ∀ x ∈ xs, Ok3 x) : pr3 xs ≠ [] := by
  cases xs with
  | nil => exact absurd rfl h0
  | cons x r =>
    have := wr3_ne (h x (by simp))
    unfold pr3
    cases r with
    | nil => simpa [jn] using this
    | cons y r => simp [jn]
theorem pr3_of {s : List UInt8} {xs : List T3} (h : all3 (spl9 44 s) = some xs) : pr3 xs = s := by
  unfold pr3
  rw [all3_wr h, jn_spl9]
end Go.Proofs.YtjlpcklcnabldaaDoor.L
