/-
  KEYS OF TUPLES, without the program: the bytes of a tuple's key; its order; the way back.
-/
import Derived.Test.YtanpneahembhbaaGreatDoorProg
import Derived.Lib.SplitLaws
import Derived.Lib.IndexBytes
import Derived.Lib.Replace
import Derived.Sort.Walk0
namespace Go.Proofs.YtanpneahembhbaaGreatDoor.K
open Go
/-- A part's bytes, each byte 0 followed by a byte 255. -/
def enc : List UInt8 → List UInt8
  | [] => []
  | b :: l => if b = 0 then 0 :: 255 :: enc l else b :: enc l
theorem enc_zero (l : List UInt8) : enc (0 :: l) = 0 :: 255 :: enc l := by rw [enc, if_pos rfl]
theorem enc_ne (b : UInt8) (l : List UInt8) (h : b ≠ 0) : enc (b :: l) = b :: enc l := by rw [enc, if_neg h]
theorem enc_length (l : List UInt8) : (enc l).length = l.length + l.count 0 := by
  induction l with
  | nil => rfl
  | cons b l ih =>
    by_cases h : b = 0
    · subst h; rw [enc_zero, List.count_cons_self]; simp only [List.length_cons]; omega
    · rw [enc_ne b l h, List.count_cons_of_ne h]; simp only [List.length_cons]; omega
theorem enc_free (a : List UInt8) (h : (0 : UInt8) ∉ a) : enc a = a := by
  induction a with
  | nil => rfl
  | cons b a ih =>
    rw [List.mem_cons, not_or] at h
    rw [enc_ne b a (fun e => h.1 e.symm), ih h.2]
theorem enc_app (a l : List UInt8) : enc (a ++ l) = enc a ++ enc l := by
  induction a with
  | nil => rfl
  | cons b a ih =>
    by_cases h : b = 0
    · subst h; rw [List.cons_append, enc_zero, enc_zero, ih]; rfl
    · rw [List.cons_append, enc_ne _ _ h, enc_ne _ _ h, ih]; rfl
/-- The key of a tuple. -/
def keyL : List ByteArray → List UInt8
  | [] => []
  | t :: r => enc t.data.toList ++ 0 :: 1 :: keyL r
theorem keyL_app (a b : List ByteArray) : keyL (a ++ b) = keyL a ++ keyL b := by
  induction a with
  | nil => rfl
  | cons t r ih => rw [List.cons_append, keyL, keyL, ih]; simp
/-- What Make answers. -/
def makeR (ts : List ByteArray) : ByteArray × Int :=
  if ts.length = 0 ∨ 8 < ts.length then (⟨#[]⟩, 1) else if 120 < (keyL ts).length then (⟨#[]⟩, 23) else (⟨(keyL ts).toArray⟩, 0)

/-! ### order -/
abbrev bl := Op.bytesLess
theorem bl_nil (b : UInt8) (l : List UInt8) : bl [] (b :: l) = true := rfl
theorem bl_to_nil (l : List UInt8) : bl l [] = false := by cases l <;> rfl
theorem bl_cons (a b : UInt8) (x y : List UInt8) : bl (a :: x) (b :: y) = (decide (a < b) || (a == b && bl x y)) := rfl
theorem bl_same (a : UInt8) (x y : List UInt8) : bl (a :: x) (a :: y) = bl x y := by
  rw [bl_cons]; simp
theorem bl_app (a x y : List UInt8) : bl (a ++ x) (a ++ y) = bl x y := by
  induction a with
  | nil => rfl
  | cons b a ih => rw [List.cons_append, List.cons_append, bl_same, ih]
theorem bl_refl (x : List UInt8) : bl x x = false := by
  induction x with
  | nil => rfl
  | cons b x ih => rw [bl_same, ih]
theorem bl_lt (x y : List UInt8) : bl x y = decide (x < y) := bytesLess_eq x y
theorem bl_total (x y : List UInt8) (h1 : bl x y = false) (h2 : bl y x = false) : x = y := by
  rw [bl_lt, decide_eq_false_iff_not] at h1 h2
  exact List.le_antisymm h2 h1
theorem bl_asymm (x y : List UInt8) (h : bl x y = true) : bl y x = false := by
  rw [bl_lt] at *
  rw [decide_eq_true_eq] at h
  exact decide_eq_false (List.lt_asymm h)
theorem bl_trans (x y z : List UInt8) (h1 : bl x y = true) (h2 : bl y z = true) : bl x z = true := by
  rw [bl_lt, decide_eq_true_eq] at *
  exact List.lt_trans h1 h2
theorem enc_order (c d : UInt8) (hc : c < 255) (hd : d < 255) (s t x y : List UInt8) (h : s ≠ t) : bl (enc s ++ 0 :: c :: x) (enc t ++ 0 :: d :: y) = bl s t := by
  induction s generalizing t with
  | nil =>
    cases t with
    | nil => exact absurd rfl h
    | cons b t =>
      by_cases hb : b = 0
      · subst hb; rw [enc_zero, bl_nil]
        show bl (0 :: c :: x) (0 :: 255 :: (enc t ++ 0 :: d :: y)) = true
        rw [bl_same, bl_cons, decide_eq_true hc]; rfl
      · rw [enc_ne b t hb, bl_nil]
        show bl (0 :: c :: x) (b :: (enc t ++ 0 :: d :: y)) = true
        rw [bl_cons, decide_eq_true (UInt8.pos_iff_ne_zero.2 hb)]; rfl
  | cons a s ih =>
    cases t with
    | nil =>
      by_cases ha : a = 0
      · subst ha; rw [enc_zero, bl_to_nil]
        show bl (0 :: 255 :: (enc s ++ 0 :: c :: x)) (0 :: d :: y) = false
        have h1 : ¬ (255 : UInt8) < d := fun h => UInt8.lt_irrefl d (UInt8.lt_trans hd h)
        have h2 : (255 : UInt8) ≠ d := fun h => by subst h; exact UInt8.lt_irrefl _ hd
        rw [bl_same, bl_cons, decide_eq_false h1, beq_eq_false_iff_ne.2 h2]; rfl
      · rw [enc_ne a s ha, bl_to_nil]
        show bl (a :: (enc s ++ 0 :: c :: x)) (0 :: d :: y) = false
        rw [bl_cons, decide_eq_false (UInt8.not_lt_zero), beq_eq_false_iff_ne.2 ha]; rfl
    | cons b t =>
      by_cases e : a = b
      · subst e
        have h2 : s ≠ t := fun e => h (by rw [e])
        rw [bl_same, ← ih t h2]
        by_cases ha : a = 0
        · subst ha; rw [enc_zero, enc_zero, List.cons_append, List.cons_append, List.cons_append, List.cons_append, bl_same, bl_same]
        · rw [enc_ne _ _ ha, enc_ne _ _ ha, List.cons_append, List.cons_append, bl_same]
      · rw [bl_cons, beq_eq_false_iff_ne.2 e, Bool.false_and, Bool.or_false]
        have hA : ∃ X, enc (a :: s) = a :: X := by
          by_cases ha : a = 0
          · subst ha; exact ⟨_, enc_zero s⟩
          · exact ⟨_, enc_ne _ _ ha⟩
        have hB : ∃ X, enc (b :: t) = b :: X := by
          by_cases ha : b = 0
          · subst ha; exact ⟨_, enc_zero t⟩
          · exact ⟨_, enc_ne _ _ ha⟩
        obtain ⟨X, hX⟩ := hA
        obtain ⟨Y, hY⟩ := hB
        rw [hX, hY, List.cons_append, List.cons_append, bl_cons, beq_eq_false_iff_ne.2 e, Bool.false_and, Bool.or_false]
/-- Does the tuple a come ahead of b? -/
def aheadB : List ByteArray → List ByteArray → Bool
  | _, [] => false
  | [], _ :: _ => true
  | a :: x, b :: y => if a = b then aheadB x y else bl a.data.toList b.data.toList
theorem data_ne {a b : ByteArray} (h : a ≠ b) : a.data.toList ≠ b.data.toList := fun e => h (by cases a; cases b; simp_all [Array.toList_inj])
theorem key_order (a b : List ByteArray) : bl (keyL a) (keyL b) = aheadB a b := by
  induction a generalizing b with
  | nil =>
    cases b with
    | nil => rfl
    | cons t r =>
      show bl [] (enc t.data.toList ++ 0 :: 1 :: keyL r) = true
      cases h : enc t.data.toList with
      | nil => rfl
      | cons _ _ => rfl
  | cons t r ih =>
    cases b with
    | nil => rw [keyL, keyL, bl_to_nil]; rfl
    | cons u q =>
      rw [keyL, keyL, aheadB]
      by_cases e : t = u
      · subst e; rw [if_pos rfl, bl_app, bl_same, bl_same, ih]
      · rw [if_neg e]; exact enc_order 1 1 (by decide) (by decide) _ _ _ _ (data_ne e)
theorem ahead_refl (a : List ByteArray) : aheadB a a = false := by rw [← key_order, bl_refl]
theorem ahead_total (a b : List ByteArray) (h1 : aheadB a b = false) (h2 : aheadB b a = false) : a = b := by
  induction a generalizing b with
  | nil =>
    cases b with
    | nil => rfl
    | cons _ _ => exact absurd h1 (by simp [aheadB])
  | cons t r ih =>
    cases b with
    | nil => exact absurd h2 (by simp [aheadB])
    | cons u q =>
      rw [aheadB] at h1 h2
      by_cases e : t = u
      · subst e
        rw [if_pos rfl] at h1 h2
        rw [ih q h1 h2]
      · rw [if_neg e] at h1
        rw [if_neg (fun h => e h.symm)] at h2
        exact absurd (bl_total _ _ h1 h2) (data_ne e)
theorem key_inj (a b : List ByteArray) (h : keyL a = keyL b) : a = b :=
  ahead_total a b (by rw [← key_order, h, bl_refl]) (by rw [← key_order, h, bl_refl])
/-! ### there and back -/
theorem index_enc (t l : List UInt8) : Lib.index (enc t ++ 0 :: 1 :: l) [0, 1] = (enc t).length := by
  induction t with
  | nil => simp [enc, Lib.index, List.isPrefixOf]
  | cons b t ih =>
    by_cases hb : b = 0
    · subst hb
      rw [enc_zero]
      have e1 : Lib.index (255 :: (enc t ++ 0 :: 1 :: l)) [0, 1] = (enc t).length + 1 := by
        rw [Lib.index, if_neg (by simp [List.isPrefixOf]), ih, if_neg (by rw [beq_iff_eq]; omega)]
      show Lib.index (0 :: 255 :: (enc t ++ 0 :: 1 :: l)) [0, 1] = _
      rw [Lib.index, if_neg (by simp [List.isPrefixOf]), e1, if_neg (by rw [beq_iff_eq]; omega)]
      simp only [List.length_cons]; omega
    · rw [enc_ne b t hb]
      show Lib.index (b :: (enc t ++ 0 :: 1 :: l)) [0, 1] = _
      rw [Lib.index, if_neg (by simp [List.isPrefixOf, Ne.symm hb]), ih, if_neg (by rw [beq_iff_eq]; omega)]
      simp only [List.length_cons]; omega
theorem index_enc_none (t : List UInt8) : Lib.index (enc t) [0, 1] = -1 := by
  induction t with
  | nil => rfl
  | cons b t ih =>
    by_cases hb : b = 0
    · subst hb
      rw [enc_zero]
      have e1 : Lib.index (255 :: enc t) [0, 1] = -1 := by
        rw [Lib.index, if_neg (by simp [List.isPrefixOf]), ih]; rfl
      rw [Lib.index, if_neg (by simp [List.isPrefixOf]), e1]; rfl
    · rw [enc_ne b t hb]
      rw [Lib.index, if_neg (by simp [List.isPrefixOf, Ne.symm hb]), ih]; rfl
/-- A key without its end. -/
def bodyL : List ByteArray → List UInt8
  | [] => []
  | [t] => enc t.data.toList
  | t :: u :: r => enc t.data.toList ++ 0 :: 1 :: bodyL (u :: r)
theorem body_key (ts : List ByteArray) (h : ts ≠ []) : keyL ts = bodyL ts ++ [0, 1] := by
  induction ts with
  | nil => exact absurd rfl h
  | cons t r ih =>
    cases r with
    | nil => rfl
    | cons u r => rw [keyL, bodyL, ih (by simp)]; simp
theorem split_body (ts : List ByteArray) (h : ts ≠ []) : Lib.splitK [0, 1] 0 (Lib.count (bodyL ts) [0, 1]) (bodyL ts) = ts.map (fun t => enc t.data.toList) := by
  induction ts with
  | nil => exact absurd rfl h
  | cons t r ih =>
    cases r with
    | nil =>
      rw [bodyL, Lib.count_miss (index_enc_none _)]
      rfl
    | cons u r =>
      have hi := index_enc t.data.toList (bodyL (u :: r))
      have hd : (enc t.data.toList ++ 0 :: 1 :: bodyL (u :: r)).drop ((enc t.data.toList).length + [(0 : UInt8), 1].length) = bodyL (u :: r) := by
        rw [← List.drop_drop]; simp
      rw [bodyL, Lib.count_hit (by simp) hi, hd, Nat.add_comm, Lib.splitK, if_neg (by rw [hi, beq_iff_eq]; omega), hi]
      have e1 : (enc t.data.toList ++ 0 :: 1 :: bodyL (u :: r)).take ((((enc t.data.toList).length : Nat) : Int).toNat + 0) = enc t.data.toList := by simp
      have e2 : (enc t.data.toList ++ 0 :: 1 :: bodyL (u :: r)).drop ((((enc t.data.toList).length : Nat) : Int).toNat + [(0 : UInt8), 1].length) = bodyL (u :: r) := by rw [Int.toNat_natCast]; exact hd
      rw [e1, e2, ih (by simp)]
      rfl
theorem all_miss (s old new : List UInt8) (h : Lib.index s old = -1) : Lib.replaceAll s old new = s := by
  unfold Lib.replaceAll Lib.replace Lib.replaceNum
  split
  · rfl
  · rw [if_pos (.inl (by decide)), Lib.count_miss h]; rfl
theorem all_hit (s old new : List UInt8) (i : Nat) (ho : old ≠ []) (hne : old ≠ new) (h : Lib.index s old = i) : Lib.replaceAll s old new = s.take i ++ new ++ Lib.replaceAll (s.drop (i + old.length)) old new := by
  have hb : (old == new) = false := beq_eq_false_iff_ne.2 hne
  have e : ∀ q, Lib.replaceAll q old new = Lib.replaceK old new (Lib.count q old) q := by
    intro q
    unfold Lib.replaceAll Lib.replace Lib.replaceNum
    rw [hb, if_neg Bool.false_ne_true, if_pos (.inl (by decide))]
  rw [e, e, Lib.count_hit ho h, Nat.add_comm, Lib.replaceK_hit _ _ _ _ _ h]
theorem first_zero (s : List UInt8) (h : (0 : UInt8) ∈ s) : ∃ a l, s = a ++ 0 :: l ∧ (0 : UInt8) ∉ a := by
  induction s with
  | nil => simp at h
  | cons b s ih =>
    by_cases e : b = 0
    · exact ⟨[], s, by rw [e]; rfl, by simp⟩
    · rw [List.mem_cons] at h
      rcases h with h | h
      · exact absurd h.symm e
      · obtain ⟨a, l, rfl, ha⟩ := ih h
        exact ⟨b :: a, l, rfl, by rw [List.mem_cons, not_or]; exact ⟨fun h => e h.symm, ha⟩⟩
theorem index_free0 (a p : List UInt8) (h : (0 : UInt8) ∉ a) : Lib.index a (0 :: p) = -1 := by
  induction a with
  | nil => rfl
  | cons b a ih =>
    rw [List.mem_cons, not_or] at h
    rw [Lib.index, if_neg (by simp [List.isPrefixOf, h.1]), ih h.2]; rfl
theorem index_app0 (a p l : List UInt8) (h : (0 : UInt8) ∉ a) : Lib.index (a ++ 0 :: (p ++ l)) (0 :: p) = a.length := by
  induction a with
  | nil => rw [List.nil_append, Lib.index, if_pos (by simp [List.isPrefixOf])]; rfl
  | cons b a ih =>
    rw [List.mem_cons, not_or] at h
    rw [List.cons_append, Lib.index, if_neg (by simp [List.isPrefixOf, h.1]), ih h.2, if_neg (by rw [beq_iff_eq]; omega), List.length_cons]; rfl
theorem all_enc : ∀ (n : Nat) (s : List UInt8), s.length ≤ n → Lib.replaceAll s [0] [0, 255] = enc s
  | n, s, hn => by
    by_cases h : (0 : UInt8) ∈ s
    · obtain ⟨a, l, rfl, ha⟩ := first_zero s h
      have hi := index_app0 a [] l ha
      rw [List.nil_append] at hi
      have hd : (a ++ 0 :: l).drop (a.length + [(0 : UInt8)].length) = l := by rw [← List.drop_drop]; simp
      rw [all_hit _ _ _ a.length (by simp) (by simp) hi, hd]
      cases n with
      | zero => simp at hn
      | succ n =>
        rw [all_enc n l (by simp at hn; omega), enc_app, enc_zero, enc_free a ha]
        simp
    · rw [all_miss _ _ _ (index_free0 s [] h), enc_free s h]
theorem all_dec : ∀ (n : Nat) (s : List UInt8), s.length ≤ n → Lib.replaceAll (enc s) [0, 255] [0] = s
  | n, s, hn => by
    by_cases h : (0 : UInt8) ∈ s
    · obtain ⟨a, l, rfl, ha⟩ := first_zero s h
      have hi := index_app0 a [255] (enc l) ha
      have hd : (a ++ 0 :: 255 :: enc l).drop (a.length + [(0 : UInt8), 255].length) = enc l := by rw [← List.drop_drop]; simp
      have e : enc (a ++ 0 :: l) = a ++ 0 :: 255 :: enc l := by rw [enc_app, enc_zero, enc_free a ha]
      have hi' : Lib.index (a ++ 0 :: 255 :: enc l) [0, 255] = a.length := hi
      rw [e, all_hit _ _ _ a.length (by simp) (by simp) hi', hd]
      cases n with
      | zero => simp at hn
      | succ n =>
        rw [all_dec n l (by simp at hn; omega)]
        simp
    · rw [enc_free s h, all_miss _ _ _ (index_free0 s [255] h)]
def bytesOf (l : List UInt8) : ByteArray := ⟨l.toArray⟩
theorem bytesOf_data (s : ByteArray) : bytesOf s.data.toList = s := by simp [bytesOf]
theorem data_bytesOf (l : List UInt8) : (bytesOf l).data.toList = l := by simp [bytesOf]
/-- The parts of a text that ends as a key does. -/
def partsOf (k : List UInt8) : List ByteArray := (Lib.splitK [0, 1] 0 (Lib.count (Lib.trimSuffix k [0, 1]) [0, 1]) (Lib.trimSuffix k [0, 1])).map fun p => bytesOf (Lib.replaceAll p [0, 255] [0])
theorem trim_end (l : List UInt8) : Lib.hasSuffix (l ++ [0, 1]) [0, 1] = true ∧ Lib.trimSuffix (l ++ [0, 1]) [0, 1] = l := by
  have h : Lib.hasSuffix (l ++ [0, 1]) [0, 1] = true := by simp [Lib.hasSuffix]
  refine ⟨h, ?_⟩
  unfold Lib.trimSuffix
  rw [if_pos h]; simp
theorem parts_key (ts : List ByteArray) (h : ts ≠ []) : partsOf (keyL ts) = ts := by
  unfold partsOf
  rw [body_key ts h, (trim_end _).2, split_body ts h, List.map_map]
  conv => rhs; rw [← List.map_id ts]
  congr 1
  funext t
  show bytesOf (Lib.replaceAll (enc t.data.toList) [0, 255] [0]) = t
  rw [all_dec _ _ (Nat.le_refl _), bytesOf_data]
end Go.Proofs.YtanpneahembhbaaGreatDoor.K
