/-
  KKeyM, KKeyR, KKeyN, KStrs, KCmp, KLenM, KBld, KMake, KSpl, KSplA, KFixed, joined.
-/
import Derived.Test.YtehgnbgbmicheaaGreatDoorProg
import Derived.Lib.SplitLaws
import Derived.Lib.IndexBytes
import Derived.Lib.Replace
import Derived.Sort.Walk0
import Derived.Test.YtehgnbgbmicheaaGreatDoorRows
import Derived.WalkKit
import Derived.WalkSpells
import Derived.WalkLawsBesides
import Derived.Handy
import Derived.Lib.Walk
import Derived.Lib.Hide
import Derived.Lib.SliceRun
import Derived.BigQuiet
import Derived.Deep.QuietTactic
import Derived.Deep.LoopGhost
import Derived.LoopTactic
import Derived.OwnWalk
import Derived.Maps.AppendAt
import Derived.Laws.AppendOwnNone
import Derived.Test.YtehgnbgbmicheaaGreatDoorShelf
section S0
namespace Go.Proofs.YtehgnbgbmicheaaGreatDoor.K
open Go
/-- A part's bytes, each byte 0 followed by a byte 255. -/
def enc : List UInt8 → List UInt8
  | [] => []
  | b :: l => if b = 0 then 0 :: 255 :: enc l else b :: enc l
theorem enc_zero (l : List UInt8) : enc (0 :: l) = 0 :: 255 :: enc l := by rw [enc, if_pos rfl]
theorem enc_ne (b : UInt8) (l : List UInt8) (h : b ≠ 0) : enc (b :: l) = b :: enc l := by rw [enc, if_neg h]
theorem enc_length (l : List UInt8) : (enc l).length = l.length + l.count 0 := by
  induction l with
  | nil => rfl
  | cons b l ih =>
    by_cases h : b = 0
    · subst h; rw [enc_zero, List.count_cons_self]; simp only [List.length_cons]; omega
    · rw [enc_ne b l h, List.count_cons_of_ne h]; simp only [List.length_cons]; omega
theorem enc_free (a : List UInt8) (h : (0 : UInt8) ∉ a) : enc a = a := by
  induction a with
  | nil => rfl
  | cons b a ih =>
    rw [List.mem_cons, not_or] at h
    rw [enc_ne b a (fun e => h.1 e.symm), ih h.2]
theorem enc_app (a l : List UInt8) : enc (a ++ l) = enc a ++ enc l := by
  induction a with
  | nil => rfl
  | cons b a ih =>
    by_cases h : b = 0
    · subst h; rw [List.cons_append, enc_zero, enc_zero, ih]; rfl
    · rw [List.cons_append, enc_ne _ _ h, enc_ne _ _ h, ih]; rfl
/-- The key of a tuple. -/
def keyL : List ByteArray → List UInt8
  | [] => []
  | t :: r => enc t.data.toList ++ 0 :: 1 :: keyL r
theorem keyL_app (a b : List ByteArray) : keyL (a ++ b) = keyL a ++ keyL b := by
  induction a with
  | nil => rfl
  | cons t r ih => rw [List.cons_append, keyL, keyL, ih]; simp
/-- What Make answers. -/
def makeR (ts : List ByteArray) : ByteArray × Int :=
  if ts.length = 0 ∨ 8 < ts.length then (⟨#[]⟩, 1) else if 120 < (keyL ts).length then (⟨#[]⟩, 23) else (⟨(keyL ts).toArray⟩, 0)

/-! ### order -/
abbrev bl := Op.bytesLess
theorem bl_nil (b : UInt8) (l : List UInt8) : bl [] (b :: l) = true := rfl
theorem bl_to_nil (l : List UInt8) : bl l [] = false := by cases l <;> rfl
theorem bl_cons (a b : UInt8) (x y : List UInt8) : bl (a :: x) (b :: y) = (decide (a < b) || (a == b && bl x y)) := rfl
theorem bl_same (a : UInt8) (x y : List UInt8) : bl (a :: x) (a :: y) = bl x y := by
  rw [bl_cons]; simp
theorem bl_app (a x y : List UInt8) : bl (a ++ x) (a ++ y) = bl x y := by
  induction a with
  | nil => rfl
  | cons b a ih => rw [List.cons_append, List.cons_append, bl_same, ih]
theorem bl_refl (x : List UInt8) : bl x x = false := by
  induction x with
  | nil => rfl
  | cons b x ih => rw [bl_same, ih]
theorem bl_lt (x y : List UInt8) : bl x y = decide (x < y) := bytesLess_eq x y
theorem bl_total (x y : List UInt8) (h1 : bl x y = false) (h2 : bl y x = false) : x = y := by
  rw [bl_lt, decide_eq_false_iff_not] at h1 h2
  exact List.le_antisymm h2 h1
theorem bl_asymm (x y : List UInt8) (h : bl x y = true) : bl y x = false := by
  rw [bl_lt] at *
  rw [decide_eq_true_eq] at h
  exact decide_eq_false (List.lt_asymm h)
theorem bl_trans (x y z : List UInt8) (h1 : bl x y = true) (h2 : bl y z = true) : bl x z = true := by
  rw [bl_lt, decide_eq_true_eq] at *
  exact List.lt_trans h1 h2
theorem enc_order (c d : UInt8) (hc : c < 255) (hd : d < 255) (s t x y : List UInt8) (h : s ≠ t) : bl (enc s ++ 0 :: c :: x) (enc t ++ 0 :: d :: y) = bl s t := by
  induction s generalizing t with
  | nil =>
    cases t with
    | nil => exact absurd rfl h
    | cons b t =>
      by_cases hb : b = 0
      · subst hb; rw [enc_zero, bl_nil]
        show bl (0 :: c :: x) (0 :: 255 :: (enc t ++ 0 :: d :: y)) = true
        rw [bl_same, bl_cons, decide_eq_true hc]; rfl
      · rw [enc_ne b t hb, bl_nil]
        show bl (0 :: c :: x) (b :: (enc t ++ 0 :: d :: y)) = true
        rw [bl_cons, decide_eq_true (UInt8.pos_iff_ne_zero.2 hb)]; rfl
  | cons a s ih =>
    cases t with
    | nil =>
      by_cases ha : a = 0
      · subst ha; rw [enc_zero, bl_to_nil]
        show bl (0 :: 255 :: (enc s ++ 0 :: c :: x)) (0 :: d :: y) = false
        have h1 : ¬ (255 : UInt8) < d := fun h => UInt8.lt_irrefl d (UInt8.lt_trans hd h)
        have h2 : (255 : UInt8) ≠ d := fun h => by subst h; exact UInt8.lt_irrefl _ hd
        rw [bl_same, bl_cons, decide_eq_false h1, beq_eq_false_iff_ne.2 h2]; rfl
      · rw [enc_ne a s ha, bl_to_nil]
        show bl (a :: (enc s ++ 0 :: c :: x)) (0 :: d :: y) = false
        rw [bl_cons, decide_eq_false (UInt8.not_lt_zero), beq_eq_false_iff_ne.2 ha]; rfl
    | cons b t =>
      by_cases e : a = b
      · subst e
        have h2 : s ≠ t := fun e => h (by rw [e])
        rw [bl_same, ← ih t h2]
        by_cases ha : a = 0
        · subst ha; rw [enc_zero, enc_zero, List.cons_append, List.cons_append, List.cons_append, List.cons_append, bl_same, bl_same]
        · rw [enc_ne _ _ ha, enc_ne _ _ ha, List.cons_append, List.cons_append, bl_same]
      · rw [bl_cons, beq_eq_false_iff_ne.2 e, Bool.false_and, Bool.or_false]
        have hA : ∃ X, enc (a :: s) = a :: X := by
          by_cases ha : a = 0
          · subst ha; exact ⟨_, enc_zero s⟩
          · exact ⟨_, enc_ne _ _ ha⟩
        have hB : ∃ X, enc (b :: t) = b :: X := by
          by_cases ha : b = 0
          · subst ha; exact ⟨_, enc_zero t⟩
          · exact ⟨_, enc_ne _ _ ha⟩
        obtain ⟨X, hX⟩ := hA
        obtain ⟨Y, hY⟩ := hB
        rw [hX, hY, List.cons_append, List.cons_append, bl_cons, beq_eq_false_iff_ne.2 e, Bool.false_and, Bool.or_false]
/-- Does the tuple a come ahead of b? -/
def aheadB : List ByteArray → List ByteArray → Bool
  | _, [] => false
  | [], _ :: _ => true
  | a :: x, b :: y => if a = b then aheadB x y else bl a.data.toList b.data.toList
theorem data_ne {a b : ByteArray} (h : a ≠ b) : a.data.toList ≠ b.data.toList := fun e => h (by cases a; cases b; simp_all [Array.toList_inj])
theorem key_order (a b : List ByteArray) : bl (keyL a) (keyL b) = aheadB a b := by
  induction a generalizing b with
  | nil =>
    cases b with
    | nil => rfl
    | cons t r =>
      show bl [] (enc t.data.toList ++ 0 :: 1 :: keyL r) = true
      cases h : enc t.data.toList with
      | nil => rfl
      | cons _ _ => rfl
  | cons t r ih =>
    cases b with
    | nil => rw [keyL, keyL, bl_to_nil]; rfl
    | cons u q =>
      rw [keyL, keyL, aheadB]
      by_cases e : t = u
      · subst e; rw [if_pos rfl, bl_app, bl_same, bl_same, ih]
      · rw [if_neg e]; exact enc_order 1 1 (by decide) (by decide) _ _ _ _ (data_ne e)
theorem ahead_refl (a : List ByteArray) : aheadB a a = false := by rw [← key_order, bl_refl]
theorem ahead_total (a b : List ByteArray) (h1 : aheadB a b = false) (h2 : aheadB b a = false) : a = b := by
  induction a generalizing b with
  | nil =>
    cases b with
    | nil => rfl
    | cons _ _ => exact absurd h1 (by simp [aheadB])
  | cons t r ih =>
    cases b with
    | nil => exact absurd h2 (by simp [aheadB])
    | cons u q =>
      rw [aheadB] at h1 h2
      by_cases e : t = u
      · subst e
        rw [if_pos rfl] at h1 h2
        rw [ih q h1 h2]
      · rw [if_neg e] at h1
        rw [if_neg (fun h => e h.symm)] at h2
        exact absurd (bl_total _ _ h1 h2) (data_ne e)
theorem key_inj (a b : List ByteArray) (h : keyL a = keyL b) : a = b :=
  ahead_total a b (by rw [← key_order, h, bl_refl]) (by rw [← key_order, h, bl_refl])
/-! ### there and back -/
theorem index_enc (t l : List UInt8) : Lib.index (enc t ++ 0 :: 1 :: l) [0, 1] = (enc t).length := by
  induction t with
  | nil => simp [enc, Lib.index, List.isPrefixOf]
  | cons b t ih =>
    by_cases hb : b = 0
    · subst hb
      rw [enc_zero]
      have e1 : Lib.index (255 :: (enc t ++ 0 :: 1 :: l)) [0, 1] = (enc t).length + 1 := by
        rw [Lib.index, if_neg (by simp [List.isPrefixOf]), ih, if_neg (by rw [beq_iff_eq]; omega)]
      show Lib.index (0 :: 255 :: (enc t ++ 0 :: 1 :: l)) [0, 1] = _
      rw [Lib.index, if_neg (by simp [List.isPrefixOf]), e1, if_neg (by rw [beq_iff_eq]; omega)]
      simp only [List.length_cons]; omega
    · rw [enc_ne b t hb]
      show Lib.index (b :: (enc t ++ 0 :: 1 :: l)) [0, 1] = _
      rw [Lib.index, if_neg (by simp [List.isPrefixOf, Ne.symm hb]), ih, if_neg (by rw [beq_iff_eq]; omega)]
      simp only [List.length_cons]; omega
theorem index_enc_none (t : List UInt8) : Lib.index (enc t) [0, 1] = -1 := by
  induction t with
  | nil => rfl
  | cons b t ih =>
    by_cases hb : b = 0
    · subst hb
      rw [enc_zero]
      have e1 : Lib.index (255 :: enc t) [0, 1] = -1 := by
        rw [Lib.index, if_neg (by simp [List.isPrefixOf]), ih]; rfl
      rw [Lib.index, if_neg (by simp [List.isPrefixOf]), e1]; rfl
    · rw [enc_ne b t hb]
      rw [Lib.index, if_neg (by simp [List.isPrefixOf, Ne.symm hb]), ih]; rfl
/-- A key without its end. -/
def bodyL : List ByteArray → List UInt8
  | [] => []
  | [t] => enc t.data.toList
  | t :: u :: r => enc t.data.toList ++ 0 :: 1 :: bodyL (u :: r)
theorem body_key (ts : List ByteArray) (h : ts ≠ []) : keyL ts = bodyL ts ++ [0, 1] := by
  induction ts with
  | nil => exact absurd rfl h
  | cons t r ih =>
    cases r with
    | nil => rfl
    | cons u r => rw [keyL, bodyL, ih (by simp)]; simp
theorem split_body (ts : List ByteArray) (h : ts ≠ []) : Lib.splitK [0, 1] 0 (Lib.count (bodyL ts) [0, 1]) (bodyL ts) = ts.map (fun t => enc t.data.toList) := by
  induction ts with
  | nil => exact absurd rfl h
  | cons t r ih =>
    cases r with
    | nil =>
      rw [bodyL, Lib.count_miss (index_enc_none _)]
      rfl
    | cons u r =>
      have hi := index_enc t.data.toList (bodyL (u :: r))
      have hd : (enc t.data.toList ++ 0 :: 1 :: bodyL (u :: r)).drop ((enc t.data.toList).length + [(0 : UInt8), 1].length) = bodyL (u :: r) := by
        rw [← List.drop_drop]; simp
      rw [bodyL, Lib.count_hit (by simp) hi, hd, Nat.add_comm, Lib.splitK, if_neg (by rw [hi, beq_iff_eq]; omega), hi]
      have e1 : (enc t.data.toList ++ 0 :: 1 :: bodyL (u :: r)).take ((((enc t.data.toList).length : Nat) : Int).toNat + 0) = enc t.data.toList := by simp
      have e2 : (enc t.data.toList ++ 0 :: 1 :: bodyL (u :: r)).drop ((((enc t.data.toList).length : Nat) : Int).toNat + [(0 : UInt8), 1].length) = bodyL (u :: r) := by rw [Int.toNat_natCast]; exact hd
      rw [e1, e2, ih (by simp)]
      rfl
theorem all_miss (s old new : List UInt8) (h : Lib.index s old = -1) : Lib.replaceAll s old new = s := by
  unfold Lib.replaceAll Lib.replace Lib.replaceNum
  split
  · rfl
  · rw [if_pos (.inl (by decide)), Lib.count_miss h]; rfl
theorem all_hit (s old new : List UInt8) (i : Nat) (ho : old ≠ []) (hne : old ≠ new) (h : Lib.index s old = i) : Lib.replaceAll s old new = s.take i ++ new ++ Lib.replaceAll (s.drop (i + old.length)) old new := by
  have hb : (old == new) = false := beq_eq_false_iff_ne.2 hne
  have e : ∀ q, Lib.replaceAll q old new = Lib.replaceK old new (Lib.count q old) q := by
    intro q
    unfold Lib.replaceAll Lib.replace Lib.replaceNum
    rw [hb, if_neg Bool.false_ne_true, if_pos (.inl (by decide))]
  rw [e, e, Lib.count_hit ho h, Nat.add_comm, Lib.replaceK_hit _ _ _ _ _ h]
theorem first_zero (s : List UInt8) (h : (0 : UInt8) ∈ s) : ∃ a l, s = a ++ 0 :: l ∧ (0 : UInt8) ∉ a := by
  induction s with
  | nil => simp at h
  | cons b s ih =>
    by_cases e : b = 0
    · exact ⟨[], s, by rw [e]; rfl, by simp⟩
    · rw [List.mem_cons] at h
      rcases h with h | h
      · exact absurd h.symm e
      · obtain ⟨a, l, rfl, ha⟩ := ih h
        exact ⟨b :: a, l, rfl, by rw [List.mem_cons, not_or]; exact ⟨fun h => e h.symm, ha⟩⟩
theorem index_free0 (a p : List UInt8) (h : (0 : UInt8) ∉ a) : Lib.index a (0 :: p) = -1 := by
  induction a with
  | nil => rfl
  | cons b a ih =>
    rw [List.mem_cons, not_or] at h
    rw [Lib.index, if_neg (by simp [List.isPrefixOf, h.1]), ih h.2]; rfl
theorem index_app0 (a p l : List UInt8) (h : (0 : UInt8) ∉ a) : Lib.index (a ++ 0 :: (p ++ l)) (0 :: p) = a.length := by
  induction a with
  | nil => rw [List.nil_append, Lib.index, if_pos (by simp [List.isPrefixOf])]; rfl
  | cons b a ih =>
    rw [List.mem_cons, not_or] at h
    rw [List.cons_append, Lib.index, if_neg (by simp [List.isPrefixOf, h.1]), ih h.2, if_neg (by rw [beq_iff_eq]; omega), List.length_cons]; rfl
theorem all_enc : ∀ (n : Nat) (s : List UInt8), s.length ≤ n → Lib.replaceAll s [0] [0, 255] = enc s
  | n, s, hn => by
    by_cases h : (0 : UInt8) ∈ s
    · obtain ⟨a, l, rfl, ha⟩ := first_zero s h
      have hi := index_app0 a [] l ha
      rw [List.nil_append] at hi
      have hd : (a ++ 0 :: l).drop (a.length + [(0 : UInt8)].length) = l := by rw [← List.drop_drop]; simp
      rw [all_hit _ _ _ a.length (by simp) (by simp) hi, hd]
      cases n with
      | zero => simp at hn
      | succ n =>
        rw [all_enc n l (by simp at hn; omega), enc_app, enc_zero, enc_free a ha]
        simp
    · rw [all_miss _ _ _ (index_free0 s [] h), enc_free s h]
theorem all_dec : ∀ (n : Nat) (s : List UInt8), s.length ≤ n → Lib.replaceAll (enc s) [0, 255] [0] = s
  | n, s, hn => by
    by_cases h : (0 : UInt8) ∈ s
    · obtain ⟨a, l, rfl, ha⟩ := first_zero s h
      have hi := index_app0 a [255] (enc l) ha
      have hd : (a ++ 0 :: 255 :: enc l).drop (a.length + [(0 : UInt8), 255].length) = enc l := by rw [← List.drop_drop]; simp
      have e : enc (a ++ 0 :: l) = a ++ 0 :: 255 :: enc l := by rw [enc_app, enc_zero, enc_free a ha]
      have hi' : Lib.index (a ++ 0 :: 255 :: enc l) [0, 255] = a.length := hi
      rw [e, all_hit _ _ _ a.length (by simp) (by simp) hi', hd]
      cases n with
      | zero => simp at hn
      | succ n =>
        rw [all_dec n l (by simp at hn; omega)]
        simp
    · rw [enc_free s h, all_miss _ _ _ (index_free0 s [255] h)]
def bytesOf (l : List UInt8) : ByteArray := ⟨l.toArray⟩
theorem bytesOf_data (s : ByteArray) : bytesOf s.data.toList = s := by simp [bytesOf]
theorem data_bytesOf (l : List UInt8) : (bytesOf l).data.toList = l := by simp [bytesOf]
/-- The parts of a text that ends as a key does. -/
def partsOf (k : List UInt8) : List ByteArray := (Lib.splitK [0, 1] 0 (Lib.count (Lib.trimSuffix k [0, 1]) [0, 1]) (Lib.trimSuffix k [0, 1])).map fun p => bytesOf (Lib.replaceAll p [0, 255] [0])
theorem trim_end (l : List UInt8) : Lib.hasSuffix (l ++ [0, 1]) [0, 1] = true ∧ Lib.trimSuffix (l ++ [0, 1]) [0, 1] = l := by
  have h : Lib.hasSuffix (l ++ [0, 1]) [0, 1] = true := by simp [Lib.hasSuffix]
  refine ⟨h, ?_⟩
  unfold Lib.trimSuffix
  rw [if_pos h]; simp
theorem parts_key (ts : List ByteArray) (h : ts ≠ []) : partsOf (keyL ts) = ts := by
  unfold partsOf
  rw [body_key ts h, (trim_end _).2, split_body ts h, List.map_map]
  conv => rhs; rw [← List.map_id ts]
  congr 1
  funext t
  show bytesOf (Lib.replaceAll (enc t.data.toList) [0, 255] [0]) = t
  rw [all_dec _ _ (Nat.le_refl _), bytesOf_data]
end Go.Proofs.YtehgnbgbmicheaaGreatDoor.K
end S0

section S1
namespace Go.Proofs.YtehgnbgbmicheaaGreatDoor.K
open Go
/-- Does the tuple begin with these parts? -/
def begB : List ByteArray → List ByteArray → Bool
  | [], _ => true
  | _ :: _, [] => false
  | p :: r, t :: q => if p = t then begB r q else false
theorem begB_take (ps ts : List ByteArray) : begB ps ts = true ↔ ps.length ≤ ts.length ∧ ts.take ps.length = ps := by
  induction ps generalizing ts with
  | nil => simp [begB]
  | cons p r ih =>
    cases ts with
    | nil => simp [begB]
    | cons t q =>
      rw [begB]
      by_cases e : p = t
      · subst e
        rw [if_pos rfl, ih q]
        simp
      · rw [if_neg e]
        simp only [Bool.false_eq_true, false_iff, List.length_cons, List.take_succ_cons, List.cons.injEq]
        exact fun h => e h.2.1.symm
/-- Where a range ends. -/
def toL : List ByteArray → List UInt8
  | [] => []
  | [t] => enc t.data.toList ++ [0, 2]
  | t :: u :: r => enc t.data.toList ++ 0 :: 1 :: toL (u :: r)
theorem to_body (ts : List ByteArray) (h : ts ≠ []) : toL ts = bodyL ts ++ [0, 2] := by
  induction ts with
  | nil => exact absurd rfl h
  | cons t r ih =>
    cases r with
    | nil => rfl
    | cons u r => rw [toL, bodyL, ih (by simp)]; simp
theorem from_to (ts : List ByteArray) (h : ts ≠ []) : bl (keyL ts) (toL ts) = true := by
  rw [body_key ts h, to_body ts h, bl_app]; rfl
theorem to_head (t : ByteArray) (r : List ByteArray) : ∃ c X, c < 255 ∧ toL (t :: r) = enc t.data.toList ++ 0 :: c :: X := by
  cases r with
  | nil => exact ⟨2, [], by decide, rfl⟩
  | cons u r => exact ⟨1, _, by decide, rfl⟩
theorem in_range (ps ts : List ByteArray) (h : ps ≠ []) : (!(bl (keyL ts) (keyL ps)) && bl (keyL ts) (toL ps)) = begB ps ts := by
  induction ps generalizing ts with
  | nil => exact absurd rfl h
  | cons p r ih =>
    cases ts with
    | nil =>
      rw [key_order]; rfl
    | cons t q =>
      by_cases e : t = p
      · subst e
        rw [begB, if_pos rfl, keyL, keyL, bl_app, bl_same, bl_same]
        cases r with
        | nil =>
          rw [toL, bl_app, keyL, bl_to_nil]; rfl
        | cons u r => rw [toL, bl_app, bl_same, bl_same, ih q (by simp)]
      · have e' : p ≠ t := fun h => e h.symm
        rw [begB, if_neg e']
        obtain ⟨c, X, hc, hX⟩ := to_head p r
        rw [hX, keyL, keyL, enc_order 1 1 (by decide) (by decide) _ _ _ _ (data_ne e), enc_order 1 c (by decide) hc _ _ _ _ (data_ne e)]
        cases bl t.data.toList p.data.toList <;> rfl
theorem ranges_apart (a b : List ByteArray) (h1 : begB a b = false) (h2 : begB b a = false) : bl (toL a) (keyL b) = true ∨ bl (toL b) (keyL a) = true := by
  induction a generalizing b with
  | nil => exact absurd h1 (by simp [begB])
  | cons p r ih =>
    cases b with
    | nil => exact absurd h2 (by simp [begB])
    | cons q s =>
      by_cases e : p = q
      · subst e
        rw [begB, if_pos rfl] at h1 h2
        cases r with
        | nil => exact absurd h1 (by simp [begB])
        | cons u r =>
          cases s with
          | nil => exact absurd h2 (by simp [begB])
          | cons v s =>
            rw [toL, toL, show keyL (p :: v :: s) = enc p.data.toList ++ 0 :: 1 :: keyL (v :: s) from rfl, show keyL (p :: u :: r) = enc p.data.toList ++ 0 :: 1 :: keyL (u :: r) from rfl, bl_app, bl_app, bl_same, bl_same, bl_same, bl_same]
            exact ih (v :: s) h1 h2
      · have e' : q ≠ p := fun h => e h.symm
        obtain ⟨c, X, hc, hX⟩ := to_head p r
        obtain ⟨d, Y, hd, hY⟩ := to_head q s
        rw [hX, hY, keyL, keyL, enc_order c 1 hc (by decide) _ _ _ _ (data_ne e), enc_order d 1 hd (by decide) _ _ _ _ (data_ne e')]
        cases g : bl p.data.toList q.data.toList with
        | true => exact .inl rfl
        | false =>
          right
          cases g2 : bl q.data.toList p.data.toList with
          | true => rfl
          | false => exact absurd (bl_total _ _ g g2) (data_ne e)
end Go.Proofs.YtehgnbgbmicheaaGreatDoor.K
end S1

section S2
namespace Go.Proofs.YtehgnbgbmicheaaGreatDoor.K
open Go
def val : List UInt8 → Nat
  | [] => 0
  | b :: l => b.toNat * 256 ^ l.length + val l
theorem val_lt (l : List UInt8) : val l < 256 ^ l.length := by
  induction l with
  | nil => simp [val]
  | cons b l ih =>
    rw [val, List.length_cons, Nat.pow_succ]
    have h1 : b.toNat ≤ 255 := by have := b.toNat_lt; omega
    have h2 : b.toNat * 256 ^ l.length ≤ 255 * 256 ^ l.length := Nat.mul_le_mul_right _ h1
    omega
theorem val_order (x y : List UInt8) (h : x.length = y.length) : bl x y = decide (val x < val y) := by
  induction x generalizing y with
  | nil =>
    cases y with
    | nil => rfl
    | cons _ _ => simp at h
  | cons a x ih =>
    cases y with
    | nil => simp at h
    | cons b y =>
      have hl : x.length = y.length := by simpa using h
      have lx := val_lt x
      have ly := val_lt y
      rw [bl_cons, val, val, hl, ih y hl]
      rw [hl] at lx
      generalize 256 ^ y.length = P at *
      by_cases e : a = b
      · subst e
        simp
      · rw [beq_eq_false_iff_ne.2 e, Bool.false_and, Bool.or_false]
        by_cases g : a < b
        · rw [decide_eq_true g]
          have g' : a.toNat + 1 ≤ b.toNat := UInt8.lt_iff_toNat_lt.1 g
          have := Nat.mul_le_mul_right P g'
          rw [Nat.add_mul] at this
          exact (decide_eq_true (by omega)).symm
        · rw [decide_eq_false g]
          have g' : b.toNat + 1 ≤ a.toNat := by
            have h1 : ¬ a.toNat < b.toNat := fun h => g (UInt8.lt_iff_toNat_lt.2 h)
            have h2 : a.toNat ≠ b.toNat := fun h => e (UInt8.toNat_inj.1 h)
            omega
          have := Nat.mul_le_mul_right P g'
          rw [Nat.add_mul] at this
          exact (decide_eq_false (by omega)).symm
theorem val_app (l : List UInt8) (b : UInt8) : val (l ++ [b]) = val l * 256 + b.toNat := by
  induction l with
  | nil => simp [val]
  | cons a l ih =>
    rw [List.cons_append, val, ih, val, List.length_append, List.length_singleton, Nat.pow_succ, Nat.add_mul, Nat.mul_assoc]
    omega
theorem val_inj (x y : List UInt8) (h : x.length = y.length) (e : val x = val y) : x = y := by
  refine bl_total x y ?_ ?_
  · rw [val_order x y h, e]; simp
  · rw [val_order y x h.symm, e]; simp
/-- k bytes of a number. -/
def num : Nat → Nat → List UInt8
  | 0, _ => []
  | k + 1, n => num k (n / 256) ++ [UInt8.ofNat n]
theorem num_length (k n : Nat) : (num k n).length = k := by
  induction k generalizing n with
  | zero => rfl
  | succ k ih => rw [num, List.length_append, ih]; rfl
theorem num_val (k n : Nat) (h : n < 256 ^ k) : val (num k n) = n := by
  induction k generalizing n with
  | zero => simp at h; subst h; rfl
  | succ k ih =>
    rw [num, val_app, ih (n / 256) (by rw [Nat.pow_succ] at h; omega)]
    have : (UInt8.ofNat n).toNat = n % 256 := by simp
    omega
/-! ### between -/
def agr : List UInt8 → List UInt8 → Nat
  | a :: x, b :: y => if a = b then agr x y + 1 else 0
  | _, _ => 0
def btw (a b : List UInt8) : List UInt8 := a.take (agr a b) ++ [if agr a b < a.length then a.getD (agr a b) 0 + 1 else 0]
theorem agr_le (a b : List UInt8) : agr a b ≤ a.length ∧ agr a b ≤ b.length := by
  induction a generalizing b with
  | nil => simp [agr]
  | cons c x ih =>
    cases b with
    | nil => simp [agr]
    | cons d y =>
      rw [agr]
      split
      · have := ih y; simp only [List.length_cons]; omega
      · simp
theorem btw_cons (a b : UInt8) (x y : List UInt8) : btw (a :: x) (b :: y) = if a = b then a :: btw x y else [a + 1] := by
  unfold btw
  rw [agr]
  split
  · rename_i e; simp
  · simp
theorem byte_up (a b : UInt8) (h : a < b) : (a + 1).toNat = a.toNat + 1 := by
  have h1 : a.toNat < b.toNat := UInt8.lt_iff_toNat_lt.1 h
  have h2 := b.toNat_lt
  rw [UInt8.toNat_add]
  have : (1 : UInt8).toNat = 1 := rfl
  omega
theorem btw_spec (a b : List UInt8) (h : bl a b = true) : bl a (btw a b) = true ∧ bl b (btw a b) = false := by
  induction a generalizing b with
  | nil =>
    cases b with
    | nil => cases h
    | cons d y =>
      refine ⟨rfl, ?_⟩
      show bl (d :: y) [0] = false
      rw [bl_cons, decide_eq_false UInt8.not_lt_zero, bl_to_nil, Bool.and_false]; rfl
  | cons c x ih =>
    cases b with
    | nil => rw [bl_to_nil] at h; cases h
    | cons d y =>
      rw [btw_cons]
      by_cases e : c = d
      · subst e
        rw [if_pos rfl, bl_same, bl_same]
        rw [bl_same] at h
        exact ih y h
      · rw [if_neg e]
        rw [bl_cons, beq_eq_false_iff_ne.2 e, Bool.false_and, Bool.or_false, decide_eq_true_eq] at h
        have hu := byte_up c d h
        have h1 : c.toNat < d.toNat := UInt8.lt_iff_toNat_lt.1 h
        rw [bl_cons, bl_cons, bl_to_nil, bl_to_nil, Bool.and_false, Bool.and_false, Bool.or_false, Bool.or_false]
        refine ⟨decide_eq_true (UInt8.lt_iff_toNat_lt.2 (by omega)), decide_eq_false (fun h => ?_)⟩
        have := UInt8.lt_iff_toNat_lt.1 h
        omega
theorem btw_length (a b : List UInt8) : (btw a b).length = agr a b + 1 := by
  have := agr_le a b
  unfold btw
  rw [List.length_append, List.length_take, List.length_singleton]; omega
/-- A text that agrees with what Between tells up to a place and is cut there, or is less there, is not above a. -/
theorem btw_cut (a b : List UInt8) (at' : Nat) (h : at' < (btw a b).length) : bl a ((btw a b).take at') = false := by
  have hl := agr_le a b
  rw [btw_length] at h
  have e : (btw a b).take at' = a.take at' := by
    unfold btw
    rw [List.take_append_of_le_length (by rw [List.length_take]; omega), List.take_take]
    congr 1
    omega
  rw [e]
  conv => lhs; arg 1; rw [← List.take_append_drop at' a, ]
  have e2 : bl (a.take at' ++ a.drop at') (a.take at' ++ []) = bl (a.drop at') [] := bl_app _ _ _
  rw [List.append_nil] at e2
  rw [e2, bl_to_nil]
theorem btw_less (a b : List UInt8) (at' : Nat) (c : UInt8) (l : List UInt8) (h : at' < (btw a b).length) (hc : c < (btw a b).getD at' 0) (hlen : ((btw a b).take at' ++ c :: l).length = (btw a b).length) :
    bl a ((btw a b).take at' ++ c :: l) = false := by
  have hl := agr_le a b
  rw [btw_length] at h
  have e : (btw a b).take at' = a.take at' := by
    unfold btw
    rw [List.take_append_of_le_length (by rw [List.length_take]; omega), List.take_take]
    congr 1
    omega
  rw [e] at hlen ⊢
  have tl : (a.take at').length = at' := by rw [List.length_take]; omega
  rw [List.length_append, List.length_cons, tl, btw_length] at hlen
  have hat : at' < a.length := by
    rcases Nat.lt_or_ge at' a.length with g | g
    · exact g
    · have : at' = agr a b := by omega
      subst this
      exfalso
      have : (btw a b).getD (agr a b) 0 = 0 := by
        unfold btw
        rw [if_neg (by omega), List.getD_eq_getElem?_getD, List.getElem?_append_right (by rw [List.length_take]; omega), List.length_take]
        simp [Nat.min_eq_left hl.1]
      rw [this] at hc
      exact UInt8.not_lt_zero hc
  have ea : a = a.take at' ++ a.getD at' 0 :: a.drop (at' + 1) := by
    have : a.getD at' 0 = a[at'] := by simp [hat]
    rw [this, List.getElem_cons_drop, List.take_append_drop]
  conv => lhs; arg 1; rw [ea]
  rw [bl_app, bl_cons]
  rcases Nat.lt_or_ge at' (agr a b) with g | g
  · have e3 : (btw a b).getD at' 0 = a.getD at' 0 := by
      unfold btw
      rw [List.getD_eq_getElem?_getD, List.getElem?_append_left (by rw [List.length_take]; omega), List.getElem?_take_of_lt g, ← List.getD_eq_getElem?_getD]
    rw [e3] at hc
    have hc' := UInt8.lt_iff_toNat_lt.1 hc
    rw [decide_eq_false (fun h => by have := UInt8.lt_iff_toNat_lt.1 h; omega), beq_eq_false_iff_ne.2 (fun h => by rw [h] at hc'; omega)]; rfl
  · have e4 : at' = agr a b := by omega
    obtain rfl : l = [] := by
      have : l.length = 0 := by omega
      exact List.eq_nil_of_length_eq_zero this
    have e3 : (btw a b).getD at' 0 = a.getD at' 0 + 1 := by
      rw [e4]
      unfold btw
      rw [if_pos (by omega), List.getD_eq_getElem?_getD, List.getElem?_append_right (by rw [List.length_take]; omega), List.length_take]
      simp [Nat.min_eq_left hl.1]
    rw [e3] at hc
    have hc' := UInt8.lt_iff_toNat_lt.1 hc
    rw [UInt8.toNat_add] at hc'
    have : (1 : UInt8).toNat = 1 := rfl
    rw [bl_to_nil, Bool.and_false, Bool.or_false]
    refine decide_eq_false fun h => ?_
    have := UInt8.lt_iff_toNat_lt.1 h
    omega
end Go.Proofs.YtehgnbgbmicheaaGreatDoor.K
end S2

section S3
namespace Go.Proofs.YtehgnbgbmicheaaGreatDoor.K
open Go.RowKit Go.Lib
theorem add_plain (b off j : Nat) : (⟨b, off, none⟩ : Addr).add j = ⟨b, off + j, none⟩ := by unfold Addr.add; split <;> simp_all
theorem grown_alloc {w w' : World} {o : Obj} {row : Option Nat} (h : (w.alloc o).grownBy w' row) : w.grownBy w' row :=
  ⟨h.os, h.tape, h.output, Nat.le_trans (by simp) h.size, fun k hk hr => (h.block k (by simp; omega) hr).trans (Below.heap_alloc w o k hk)⟩
/-- The slice v holds the texts ts. -/
def Strs (w : World) (v : Value) (ts : List ByteArray) : Prop :=
  ∃ a cap, v = .slice a ts.length cap ∧ ts.length ≤ cap ∧ cap ≤ maxLen ∧ (a = none → cap = 0) ∧ (∀ k, k < ts.length → ∃ b off, a = some ⟨b, off, none⟩ ∧ w.cell? ⟨b, off + k, none⟩ = some (.string (ts.getD k ⟨#[]⟩)))
theorem Strs.below {w w' : World} {v : Value} {ts : List ByteArray} (H : Strs w v ts) (hb : Below w.heap.size w w') : Strs w' v ts := by
  obtain ⟨a, cap, e, h1, h2, h0, h3⟩ := H
  refine ⟨a, cap, e, h1, h2, h0, fun k hk => ?_⟩
  obtain ⟨b, off, ea, hc⟩ := h3 k hk
  exact ⟨b, off, ea, by rw [hb.cell (p := ⟨b, off + k, none⟩) (block_lt_of_cell hc)]; exact hc⟩
theorem Strs.len {w : World} {v : Value} {ts : List ByteArray} (H : Strs w v ts) : ∃ a cap, v = .slice a ts.length cap ∧ ts.length ≤ cap ∧ cap ≤ maxLen := by
  obtain ⟨a, cap, h, h1, h2, _⟩ := H; exact ⟨a, cap, h, h1, h2⟩
theorem Strs.at {w : World} {a : Option Addr} {n cap : Nat} {ts : List ByteArray} (H : Strs w (.slice a n cap) ts) (k : Nat) (hk : k < ts.length) : ∃ b off, a = some ⟨b, off, none⟩ ∧ w.cell? ⟨b, off + k, none⟩ = some (.string (ts.getD k ⟨#[]⟩)) := by
  obtain ⟨a', cap', e', _, _, _, hc⟩ := H
  simp only [Value.slice.injEq] at e'
  obtain ⟨rfl, rfl, rfl⟩ := e'
  exact hc k hk
theorem info_str : (Tryz.prog.info? 9).map (fun i => (i.zero, i.size, i.bytes)) = some (some (.string ⟨#[]⟩), 1, 16) := by kernel_rfl
def cellsS (ts : List ByteArray) : List Value := ts.map .string
theorem cellsS_at (ts : List ByteArray) (k : Nat) (h : k < ts.length) : (cellsS ts)[k]? = some (.string (ts.getD k ⟨#[]⟩)) := by simp [cellsS, h]
/-- The slice v belongs to the call alone and holds the texts ts. -/
def OwnS (B : Nat) (w : World) (v : Value) (ts : List ByteArray) : Prop := w.ownsRow B 9 1 v ts.length (cellsS ts)
theorem OwnS.strs {B : Nat} {w : World} {v : Value} {ts : List ByteArray} (H : OwnS B w v ts) : Strs w v ts := by
  obtain ⟨_, ⟨hv, hn⟩ | ⟨g, cap, cur, hv, hb, hg, hn, hm, hs, ht⟩⟩ := H
  · exact ⟨none, 0, by rw [hv, hn], by omega, by decide, fun _ => rfl, fun k hk => by omega⟩
  · refine ⟨_, cap, hv, hn, hm, (fun h => by cases h), fun k hk => ⟨g, 0, rfl, ?_⟩⟩
    rw [cell_of_row w g _ cur _ _ hg, Nat.zero_add, ← Array.getElem?_toList]
    have h1 : (cur.toList.take (ts.length * 1))[k]? = cur.toList[k]? := by rw [List.getElem?_take_of_lt (by omega)]
    rw [← h1, ht, cellsS_at ts k hk]
theorem OwnS.below {B : Nat} {w w' : World} {v : Value} {ts : List ByteArray} (H : OwnS B w v ts) (hb : Below w.heap.size w w') : OwnS B w' v ts := by
  obtain ⟨h1, h | ⟨g, cap, cur, hv, hB, hg, hr⟩⟩ := H
  · exact ⟨h1, .inl h⟩
  · have hlt : g < w.heap.size := by
      rcases Nat.lt_or_ge g w.heap.size with h | h
      · exact h
      · rw [Array.getElem?_eq_none h] at hg; simp at hg
    exact ⟨h1, .inr ⟨g, cap, cur, hv, hB, by rw [hb.block g hlt]; exact hg, hr⟩⟩
theorem OwnS.lt {B : Nat} {w : World} {v : Value} {l : List ByteArray} (h : OwnS B w v l) : ∀ k, v.ownBlock = some k → B ≤ k ∧ k < w.heap.size := World.ownsRow.lt h
theorem app_txt {ops : Array Oper} {rest : List Oper} {o : Oper} {a : Act} {Q : Exit → Act → World → Prop} (hgd : o.guard = none) (s y : Operand)
    (ho : o.op = .call { callee := .builtin .append, args := #[s, y], argTypes := #[95, 95] })
    {B : Nat} {w0 : World} {v : Value} {ts : List ByteArray} (hs : a.eval s = v) (hown : OwnS B w0 v ts) (hB : B ≤ w0.heap.size) (t : ByteArray)
    (hy : a.eval y = .slice (some ⟨w0.heap.size, 0, none⟩) 1 1) (hl : (ts.length + 1) * 16 ≤ 140737488355328)
    (h : ∀ v' w', OwnS B w' v' (ts ++ [t]) → w0.grownBy w' v.ownBlock → wpList Tryz.prog ops Q rest (a.put o.dst v') w') :
    wpList Tryz.prog ops Q (o :: rest) a (w0.alloc (.cells #[.string t] 9)) := by
  obtain ⟨i0, hi, hz0, hz1, hz2⟩ := info_parts info_str
  refine wpList_append_own_at _ hgd s y 95 ho B 9 i0 _ 1 16 Tryz.underlying95 hi hz0 hz1 hz2 rfl (by decide) v ts.length (cellsS ts) hs (World.ownsRow.alloc hown _) ⟨w0.heap.size, 0, none⟩ 1 1 [.string t] hy rfl ?_ ?_ (by unfold maxLen; omega) (by omega) (by simp; omega) ?_
  · intro j u hj
    rw [add_plain, Nat.zero_add, World.cell?_alloc_new, ← Array.getElem?_toList]; exact hj
  · intro v hv; simp only [List.mem_cons, List.not_mem_nil, or_false] at hv; rw [hv]; rfl
  · intro v' w' h1 h2 _ _
    refine h v' w' ?_ (grown_alloc h2)
    show w'.ownsRow _ _ _ _ _ _
    have e : cellsS (ts ++ [t]) = cellsS ts ++ [.string t] := by simp [cellsS]
    rw [e, List.length_append]; exact h1

theorem take_one {α : Type} (l : List α) (k : Nat) (d : α) (h : k < l.length) : l.take (k + 1) = l.take k ++ [l.getD k d] := by
  rw [List.take_add_one, List.getElem?_eq_getElem h]
  simp [h]
theorem list_of_bytes (s : ByteArray) : s.toList = s.data.toList := Lib.toList_data s
theorem OwnS.grown {B : Nat} {w w' : World} {v : Value} {l : List ByteArray} (h : OwnS B w v l) : ∀ r, w.grownBy w' r → (v.ownBlock = none ∨ v.ownBlock ≠ r) → OwnS B w' v l := fun _ hg hr => World.ownsRow.kept h hg hr
end Go.Proofs.YtehgnbgbmicheaaGreatDoor.K
end S3

section S4
namespace Go.Proofs.YtehgnbgbmicheaaGreatDoor.K
open Go.RowKit
theorem drop_at {α : Type} (l : List α) (k : Nat) (d : α) (h : k < l.length) : l.drop k = l.getD k d :: l.drop (k + 1) := by
  rw [List.getD_eq_getElem?_getD, List.getElem?_eq_getElem h]
  simp
theorem ahead_at (ts us : List ByteArray) (k : Nat) (h1 : k ≤ ts.length) (h2 : k ≤ us.length) (h : ts.take k = us.take k) : aheadB ts us = aheadB (ts.drop k) (us.drop k) := by
  induction k generalizing ts us with
  | zero => rfl
  | succ k ih =>
    cases ts with
    | nil => simp at h1
    | cons t r =>
      cases us with
      | nil => simp at h2
      | cons u q =>
        rw [List.take_succ_cons, List.take_succ_cons, List.cons.injEq] at h
        rw [aheadB, if_pos h.1, List.drop_succ_cons, List.drop_succ_cons]
        exact ih r q (by simpa using h1) (by simpa using h2) h.2
theorem eqB (t u : ByteArray) (h : t = u) : (t.toList == u.toList) = true := by rw [h]; simp
theorem neB (t u : ByteArray) (h : t ≠ u) : (t.toList == u.toList) = false := by
  rw [list_of_bytes, list_of_bytes, beq_eq_false_iff_ne]; exact data_ne h
theorem take_both {ts us : List ByteArray} {k : Nat} (h1 : k < ts.length) (h2 : k < us.length) (h : ts.take k = us.take k) (e : ts.getD k ⟨#[]⟩ = us.getD k ⟨#[]⟩) : ts.take (k + 1) = us.take (k + 1) := by
  rw [take_one ts k ⟨#[]⟩ h1, take_one us k ⟨#[]⟩ h2, h, e]
theorem nan_no (t : ByteArray) (w : World) : Calls Tryz.prog 31 #[.string t] w fun e w' => e = .returned (.bool false) ∧ w' = w := by
  have e := eqB t t rfl
  go_enter Tryz.func31, Tryz.ntmps31
  go_wp2_with fail
  go_ret
  exact ⟨rfl, rfl⟩
def cmpS (t u : ByteArray) : Int := if bl t.data.toList u.data.toList then -1 else if t = u then 0 else 1
set_option maxRecDepth 100000 in
theorem cmp_any (t u : ByteArray) (w : World) : Calls Tryz.prog 17 #[.string t, .string u] w fun e w' => e = .returned (.int .i64 (cmpS t u)) ∧ w' = w := by
  have NN := Lib.hid nan_no
  go_enter Tryz.func17, Tryz.ntmps17
  go_wp2_with fail
  refine (NN.out t w).mono ?_
  rintro e w1 ⟨rfl, rfl⟩
  go_wp2_with fail
  refine (NN.out u w1).mono ?_
  rintro e w1 ⟨rfl, rfl⟩
  cases h : bl t.data.toList u.data.toList with
  | true =>
    have g : Op.bytesLess t.toList u.toList = true := by rw [list_of_bytes, list_of_bytes]; exact h
    have hc : Hid (cmpS t u = -1) := Lib.hid (by unfold cmpS; rw [if_pos h])
    clear h
    go_wp2_with fail
    go_ret
    exact ⟨by rw [hc.out]; rfl, rfl⟩
  | false =>
    have g : Op.bytesLess t.toList u.toList = false := by rw [list_of_bytes, list_of_bytes]; exact h
    by_cases e : t = u
    · have e1 := eqB t u e
      have hc : Hid (cmpS t u = 0) := Lib.hid (by unfold cmpS; rw [if_neg (by rw [h]; simp), if_pos e])
      clear h e
      go_wp2_with fail
      go_ret
      exact ⟨by rw [hc.out]; rfl, rfl⟩
    · have e1 := neB t u e
      have hc : Hid (cmpS t u = 1) := Lib.hid (by unfold cmpS; rw [if_neg (by rw [h]; simp), if_neg e])
      clear h e
      go_wp2_with fail
      go_ret
      exact ⟨by rw [hc.out]; rfl, rfl⟩
/-- What Compare answers. -/
def cmpR (ts us : List ByteArray) : Int := if aheadB ts us then -1 else if ts = us then 0 else 1
theorem cmpR_one (ts us : List ByteArray) (h1 : aheadB ts us = false) (h2 : aheadB us ts = true) : cmpR ts us = 1 := by
  unfold cmpR
  rw [if_neg (by rw [h1]; simp), if_neg (fun h => by rw [h, ahead_refl] at h2; cases h2)]
theorem cmpR_same (ts : List ByteArray) : cmpR ts ts = 0 := by
  unfold cmpR
  rw [if_neg (by rw [ahead_refl]; simp), if_pos rfl]
end Go.Proofs.YtehgnbgbmicheaaGreatDoor.K
end S4

section S5
namespace Go.Proofs.YtehgnbgbmicheaaGreatDoor.K
open Go.RowKit
def zeros (t : ByteArray) : Nat := t.data.toList.count 0
theorem zeros_le (t : ByteArray) : zeros t ≤ t.size := by
  have := List.count_le_length (a := (0 : UInt8)) (l := t.data.toList)
  have e : t.data.toList.length = t.size := by simp
  unfold zeros; omega
theorem key_one (ts : List ByteArray) (k : Nat) (h : k < ts.length) : (keyL (ts.take (k + 1))).length = (keyL (ts.take k)).length + (ts.getD k ⟨#[]⟩).size + zeros (ts.getD k ⟨#[]⟩) + 2 := by
  rw [take_one ts k ⟨#[]⟩ h, keyL_app, List.length_append, keyL, List.length_append, enc_length]
  have e : (ts.getD k ⟨#[]⟩).data.toList.length = (ts.getD k ⟨#[]⟩).size := by simp
  rw [e]
  show _ + ((_ + zeros _) + 2) = _
  omega
theorem key_bound (ts : List ByteArray) (B : Nat) (h : ∀ t ∈ ts, t.size ≤ B) (k : Nat) (hk : k ≤ ts.length) : (keyL (ts.take k)).length ≤ k * (2 * B + 2) := by
  induction k with
  | zero => simp [keyL]
  | succ k ih =>
    have h1 := ih (by omega)
    have h2 := key_one ts k (by omega)
    have h3 : (ts.getD k ⟨#[]⟩).size ≤ B := h _ (by rw [List.getD_eq_getElem?_getD, List.getElem?_eq_getElem (by omega)]; exact List.getElem_mem (by omega))
    have h4 := zeros_le (ts.getD k ⟨#[]⟩)
    rw [Nat.succ_mul]
    omega
end Go.Proofs.YtehgnbgbmicheaaGreatDoor.K
end S5

section S6
namespace Go.Proofs.YtehgnbgbmicheaaGreatDoor.K
open Go.RowKit
abbrev IsB (B b : Nat) (bs : List UInt8) (w : World) : Prop := Lib.IsBuilderF 101 5 B b (Lib.byteCells bs) w
theorem isB_below {B b : Nat} {bs : List UInt8} {w w' : World} (h : IsB B b bs w) (hb : Below w.heap.size w w') : IsB B b bs w' := by
  have one : ∀ p, Lib.BuilderAtF 101 5 B b p (Lib.byteCells bs) w → Lib.BuilderAtF 101 5 B b p (Lib.byteCells bs) w' := by
    intro p h
    have hlt := h.lt
    obtain ⟨hB, v, hbk, hown, hne⟩ := h
    refine ⟨hB, v, by rw [hb.block b hlt]; exact hbk, ?_, hne⟩
    obtain ⟨h1, h2 | ⟨g, cap, cur, fz, hv, hg, hgg, hr⟩⟩ := hown
    · exact ⟨h1, .inl h2⟩
    · have hl : g < w.heap.size := (Array.getElem?_eq_some_iff.1 hgg).1
      exact ⟨h1, .inr ⟨g, cap, cur, fz, hv, hg, by rw [hb.block g hl]; exact hgg, hr⟩⟩
  exact h.imp (one _) (one _)
theorem isB_new (w : World) : IsB w.heap.size w.heap.size [] (w.alloc (.cells #[.pointer none, .slice none 0 0] 101)) := by
  refine .inl ⟨Nat.le_refl _, _, heap_alloc_new w _, World.ownsRowF_nil _ _ _ _, ?_⟩
  intro h
  cases h
theorem write_any (B b : Nat) (bs : List UInt8) (s : ByteArray) (w : World) (h : IsB B b bs w) (hlen : bs.length + s.size ≤ 140737488355328) (hBw : B ≤ w.heap.size) :
    Calls Tryz.prog 56 #[.pointer (some ⟨b, 0, none⟩), .string s] w fun e w' => e = .returned (.tuple #[.int .i64 s.size, .nilIface]) ∧ IsB B b (bs ++ s.data.toList) w' ∧ Below B w w' := by
  refine (Any.Builder_WriteString_f (ρ := Tryz.lays155_ren) { Tryz.lays155 with } Tryz.Builder_Extra_155 B b (Lib.byteCells bs) s w h (by rw [Lib.byteCells_length]; exact hlen) hBw).mono ?_
  rintro e w' ⟨rfl, h1, h2⟩
  refine ⟨rfl, .inr ?_, h2⟩
  have e : Lib.byteCells (bs ++ s.data.toList) = Lib.byteCells bs ++ Lib.strCells s := by
    simp [Lib.byteCells, Lib.strCells]
  rw [e]
  exact h1
end Go.Proofs.YtehgnbgbmicheaaGreatDoor.K
end S6

section S7
namespace Go.Proofs.YtehgnbgbmicheaaGreatDoor.K
open Go.RowKit
/-- A variable of the library's holds some number. -/
def HasM (w : World) : Prop := ∃ m, w.cell? ⟨0, 0, none⟩ = some (.int .i64 m)
theorem HasM.below {w w' : World} (h : HasM w) (hb : Below w.heap.size w w') : HasM w' := by
  obtain ⟨m, hm⟩ := h
  exact ⟨m, (hb.cell (block_lt_of_cell hm)).trans hm⟩
theorem mem_getD {ts : List ByteArray} {k : Nat} (h : k < ts.length) : ts.getD k ⟨#[]⟩ ∈ ts := by
  rw [List.getD_eq_getElem?_getD, List.getElem?_eq_getElem h]
  exact List.getElem_mem h
set_option maxHeartbeats 4000000 in
set_option maxRecDepth 100000 in
theorem size_few (v : Value) (ts : List ByteArray) (w : World) (hv : Strs w v ts) (h8 : ts.length ≤ 8) (hs : ∀ t ∈ ts, t.size ≤ 140737488355328) :
    Calls Tryz.prog 55 #[v] w fun e w' => e = .returned (.int .i64 (keyL ts).length) ∧ w' = w := by
  have V : Aside (Strs w v ts) := hv
  obtain ⟨a, cap, rfl, hlc, hcm⟩ := hv.len
  unfold maxLen at hcm
  have HS := Lib.hid hs
  clear hv hs
  have CN : Hid (∀ t W, Calls Tryz.prog 81 #[.string t, .string ⟨#[0]⟩] W fun e w' => e = .returned (.int .i64 (zeros t)) ∧ w' = W) := Lib.hid fun t W => Tryz.strings_Count_one t 0 W
  go_enter Tryz.func55, Tryz.ntmps55
  go_wp2_with fail
  go_loopg [3, 8] ts.length (fun g sn si wr => ∃ (k : Nat), k ≤ ts.length ∧ g = ts.length - k ∧ si = .int .i64 k ∧ sn = .int .i64 (keyL (ts.take k)).length ∧ wr = w)
  case atStart => exact ⟨0, Nat.zero_le _, rfl, rfl, rfl, rfl⟩
  case round =>
    obtain ⟨k, hk, hg, rfl, rfl, rfl⟩ := hrel
    have R : Aside (gk = ts.length - k) := hg
    clear hg
    obtain ⟨n, hn⟩ : ∃ n, n = (keyL (ts.take k)).length := ⟨_, rfl⟩
    rw [← hn]
    have hb : n ≤ 2251799813685376 := by
      have := key_bound ts 140737488355328 HS.out k hk
      have h2 := Nat.mul_le_mul_right (2 * 140737488355328 + 2) (show k ≤ 8 by omega)
      omega
    have NN := Lib.hid hn
    clear hn
    by_cases hlt : k < ts.length
    · obtain ⟨b, off, rfl, p0⟩ := V.out.at k hlt
      obtain ⟨t, ht⟩ : ∃ t, t = ts.getD k ⟨#[]⟩ := ⟨_, rfl⟩
      rw [← ht] at p0
      have ts0 : t.size ≤ 140737488355328 := HS.out _ (by rw [ht]; exact mem_getD hlt)
      have C : Aside (t = ts.getD k ⟨#[]⟩) := ht
      clear ht
      have hlt' : (k : Int) < (ts.length : Int) := by omega
      go_wp2_with fail
      refine (CN.out t wr).mono ?_
      rintro e w1 ⟨rfl, rfl⟩
      have zb := zeros_le t
      obtain ⟨z, hz⟩ : ∃ z, z = zeros t := ⟨_, rfl⟩
      rw [← hz] at zb ⊢
      have Z := Lib.hid hz
      clear hz
      go_wp2_with fail
      go_roundg (ts.length - (k + 1))
      case measure => have := R.out; omega
      case rel =>
        refine ⟨k + 1, by omega, rfl, by go_num, ?_, rfl⟩
        rw [key_one ts k hlt, ← C.out, ← NN.out, ← Z.out]
        go_num
    · go_wp2_with fail
      go_ret
      refine ⟨?_, rfl⟩
      have := NN.out
      rw [List.take_of_length_le (by omega)] at this
      rw [← this]
      rfl
theorem key_mono (ts : List ByteArray) (k : Nat) : (keyL (ts.take k)).length ≤ (keyL ts).length := by
  conv => rhs; rw [← List.take_append_drop k ts, keyL_app, List.length_append]
  omega
theorem zeros_data (t : ByteArray) : Lib.countB t ⟨#[0]⟩ ≤ t.size := Lib.countB_le ⟨#[0]⟩ (by decide) _ t (Nat.le_refl _)
set_option maxHeartbeats 4000000 in
set_option maxRecDepth 100000 in
theorem make_any (v : Value) (ts : List ByteArray) (w : World) (hm : HasM w) (hv : Strs w v ts) (hs : ∀ t ∈ ts, t.size ≤ 140737488355328) :
    Calls Tryz.prog 29 #[v] w fun e w' => e = .returned (.tuple #[.string (makeR ts).1, .int .i64 (makeR ts).2]) ∧ Below w.heap.size w w' := by
  have V : Hid (Strs w v ts) := hv
  have H := Lib.hid hm
  have SZ := Lib.hid fun (h8 : ts.length ≤ 8) => size_few v ts w hv h8 hs
  obtain ⟨a, cap, rfl, hlc, hcm⟩ := hv.len
  unfold maxLen at hcm
  clear hv hs hm
  by_cases h0 : ts.length = 0
  · have g0 : ((ts.length : Int) == 0) = true := by rw [h0]; rfl
    have hr : Hid (makeR ts = (⟨#[]⟩, 1)) := Lib.hid (by unfold makeR; rw [if_pos (.inl h0)])
    clear h0
    go_enter Tryz.func29, Tryz.ntmps29
    go_wp2_with fail
    go_ret2
    exact ⟨by rw [hr.out]; rfl, Below.refl _ _⟩
  have g0 : ((ts.length : Int) == 0) = false := by rw [beq_eq_false_iff_ne]; omega
  by_cases h9 : 8 < ts.length
  · have g8 : decide ((ts.length : Int) > 8) = true := decide_eq_true (by omega)
    have hr : Hid (makeR ts = (⟨#[]⟩, 1)) := Lib.hid (by unfold makeR; rw [if_pos (.inr (by omega))])
    go_enter Tryz.func29, Tryz.ntmps29
    go_wp2_with fail
    go_ret2
    exact ⟨by rw [hr.out]; rfl, Below.refl _ _⟩
  have h8 : ts.length ≤ 8 := by omega
  have g8 : decide ((ts.length : Int) > 8) = false := decide_eq_false (by omega)
  clear h9
  have S8 := Lib.hid (SZ.out h8)
  clear SZ
  by_cases h120 : 120 < (keyL ts).length
  · have hr : Hid (makeR ts = (⟨#[]⟩, 23)) := Lib.hid (by unfold makeR; rw [if_neg (by omega), if_pos h120])
    obtain ⟨n, hn⟩ : ∃ n, n = (keyL ts).length := ⟨_, rfl⟩
    rw [← hn] at S8 h120
    have g120 : decide ((n : Int) > 120) = true := decide_eq_true (by omega)
    clear hn
    go_enter Tryz.func29, Tryz.ntmps29
    go_wp2_with fail
    refine S8.out.mono ?_
    rintro e w1 ⟨rfl, rfl⟩
    go_wp2_with fail
    go_ret2
    exact ⟨by rw [hr.out]; rfl, Below.refl _ _⟩
  · have hr : Hid (makeR ts = (⟨(keyL ts).toArray⟩, 0)) := Lib.hid (by unfold makeR; rw [if_neg (by omega), if_neg h120])
    have KM : Hid (∀ k, k ≤ ts.length → (keyL (ts.take k)).length ≤ 120) := Lib.hid fun k _ => by have := key_mono ts k; omega
    obtain ⟨n, hn⟩ : ∃ n, n = (keyL ts).length := ⟨_, rfl⟩
    rw [← hn] at S8 h120
    have g120 : decide ((n : Int) > 120) = false := decide_eq_false (by omega)
    clear hn
    have RA : Hid (∀ (t : ByteArray) W, HasM W → t.size ≤ 120 → Calls Tryz.prog 57 #[.string t, .string ⟨#[0]⟩, .string ⟨#[0, 255]⟩] W fun e w' => e = .returned (.string (bytesOf (enc t.data.toList))) ∧ Below W.heap.size W w') := Lib.hid fun t W ⟨m, hm⟩ ht => by
      have hz := zeros_data t
      refine (Tryz.strings_ReplaceAll t ⟨#[0]⟩ ⟨#[0, 255]⟩ m W (by omega) hm (by decide) (by have : (⟨#[0, 255]⟩ : ByteArray).size = 2 := rfl; rw [this]; omega)).mono ?_
      rintro e w' ⟨rfl, hb⟩
      refine ⟨?_, hb⟩
      rw [show (⟨#[0]⟩ : ByteArray).data.toList = [0] from rfl, show (⟨#[0, 255]⟩ : ByteArray).data.toList = [0, 255] from rfl, all_enc _ _ (Nat.le_refl _)]
      rfl
    have WS := Lib.hid write_any
    have ST : Hid (∀ (B b : Nat) (l : List UInt8) (W : World), IsB B b l W → B ≤ W.heap.size → Calls Tryz.prog 58 #[.pointer (some ⟨b, 0, none⟩)] W fun e w' => e = .returned (.string ⟨l.toArray⟩) ∧ (Lib.IsBuilderF 101 5 B b (Lib.byteCells l) w' ∧ Below B W w')) := Lib.hid fun B b l W h hB => Tryz.Builder_String_any_f B b l W h hB
    go_enter Tryz.func29, Tryz.ntmps29
    go_wp2_with fail
    refine S8.out.mono ?_
    rintro e w1 ⟨rfl, rfl⟩
    go_wp2_with fail
    go_loopg [20] ts.length (fun g si wr => ∃ (k : Nat), k ≤ ts.length ∧ g = ts.length - k ∧ si = .int .i64 k ∧ IsB w1.heap.size w1.heap.size (keyL (ts.take k)) wr ∧ Below w1.heap.size w1 wr)
    case atStart => exact ⟨0, Nat.zero_le _, rfl, rfl, isB_new w1, (Below.refl _ w1).alloc (Nat.le_refl _) _⟩
    case round =>
      obtain ⟨k, hk, hg, rfl, hB, hb⟩ := hrel
      have R : Hid (gk = ts.length - k ∧ IsB w1.heap.size w1.heap.size (keyL (ts.take k)) wr ∧ Below w1.heap.size w1 wr) := ⟨hg, hB, hb⟩
      clear hg hB hb
      by_cases hlt : k < ts.length
      · obtain ⟨b, off, rfl, p0⟩ := (V.out.below R.out.2.2).at k hlt
        obtain ⟨t, ht⟩ : ∃ t, t = ts.getD k ⟨#[]⟩ := ⟨_, rfl⟩
        rw [← ht] at p0
        have k1 := key_one ts k hlt
        have k2 := KM.out (k + 1) hlt
        have kk : Hid (keyL (ts.take (k + 1)) = keyL (ts.take k) ++ (enc t.data.toList ++ [0, 1])) := Lib.hid (by rw [take_one ts k ⟨#[]⟩ hlt, keyL_app, ← ht]; simp [keyL])
        rw [← ht] at k1
        have ts0 : t.size ≤ 120 := by omega
        have el : Hid ((keyL (ts.take k)).length + (enc t.data.toList).length ≤ 120 ∧ (keyL (ts.take k) ++ enc t.data.toList).length ≤ 120) := Lib.hid (by
          rw [List.length_append, enc_length]
          have : t.data.toList.length = t.size := by simp
          have hz : zeros t = t.data.toList.count 0 := rfl
          omega)
        clear ht k1 k2
        have hlt' : (k : Int) < (ts.length : Int) := by omega
        go_wp2_with fail
        refine (RA.out t wr (H.out.below R.out.2.2) ts0).mono ?_
        rintro e w2 ⟨rfl, hb⟩
        have B2 := Lib.hid (R.out.2.2.trans (hb.mono R.out.2.2.size))
        have I2 := Lib.hid (isB_below R.out.2.1 hb)
        clear hb
        go_wp2_with fail
        refine (WS.out w1.heap.size w1.heap.size (keyL (ts.take k)) (bytesOf (enc t.data.toList)) w2 I2.out (by have := el.out.1; simp [bytesOf, ByteArray.size]; omega) B2.out.size).mono ?_
        rintro e w3 ⟨rfl, hI, hb⟩
        have B3 := Lib.hid (B2.out.trans hb)
        rw [data_bytesOf] at hI
        have I3 := Lib.hid hI
        clear hb hI B2 I2
        go_wp2_with fail
        refine (WS.out w1.heap.size w1.heap.size (keyL (ts.take k) ++ enc t.data.toList) ⟨#[0, 1]⟩ w3 I3.out (by have := el.out.2; have : (⟨#[0, 1]⟩ : ByteArray).size = 2 := rfl; omega) B3.out.size).mono ?_
        rintro e w4 ⟨rfl, hI, hb⟩
        have B4 := Lib.hid (B3.out.trans hb)
        have I4 : Hid (IsB w1.heap.size w1.heap.size (keyL (ts.take (k + 1))) w4) := Lib.hid (by rw [kk.out, ← List.append_assoc]; exact hI)
        clear hb hI B3 I3
        go_wp2_with fail
        go_roundg (ts.length - (k + 1))
        case measure => have := R.out.1; omega
        case rel => exact ⟨k + 1, by omega, rfl, by go_num, I4.out, B4.out⟩
      · have e : ts.take k = ts := List.take_of_length_le (by omega)
        have I2 : Hid (IsB w1.heap.size w1.heap.size (keyL ts) wr) := Lib.hid (by have := R.out.2.1; rw [e] at this; exact this)
        clear e
        go_wp2_with fail
        refine (ST.out w1.heap.size w1.heap.size (keyL ts) wr I2.out R.out.2.2.size).mono ?_
        rintro e w2 ⟨rfl, _, hb⟩
        have B2 := Lib.hid (R.out.2.2.trans hb)
        clear hb
        go_wp2_with fail
        go_ret2
        exact ⟨by rw [hr.out]; rfl, B2.out⟩
end Go.Proofs.YtehgnbgbmicheaaGreatDoor.K
end S7

section S8
namespace Go.Proofs.YtehgnbgbmicheaaGreatDoor.K
open Go.RowKit
/-- The tuple whose key a text is; nothing, if it is none's. -/
def splitO (k : ByteArray) : Option (List ByteArray) := if Lib.hasSuffix k.data.toList [0, 1] = true ∧ k.size ≤ 120 ∧ makeR (partsOf k.data.toList) = (k, 0) then some (partsOf k.data.toList) else none
def splitE (k : ByteArray) : Int := if (splitO k).isSome then 0 else 2
def splitT (k : ByteArray) : List ByteArray := (splitO k).getD []
theorem make_ok {ts : List ByteArray} {k : ByteArray} (h : makeR ts = (k, 0)) : ts ≠ [] ∧ ts.length ≤ 8 ∧ (keyL ts).length ≤ 120 ∧ k = bytesOf (keyL ts) := by
  unfold makeR at h
  split at h
  · cases h
  · split at h
    · cases h
    · rename_i h1 h2
      refine ⟨fun e => h1 (.inl (by rw [e]; rfl)), by omega, by omega, ?_⟩
      have := congrArg Prod.fst h
      exact this.symm
theorem split_make {ts : List ByteArray} {k : ByteArray} (h : makeR ts = (k, 0)) : splitO k = some ts := by
  obtain ⟨h1, h2, h3, h4⟩ := make_ok h
  have hd : k.data.toList = keyL ts := by rw [h4, data_bytesOf]
  have hp : partsOf k.data.toList = ts := by rw [hd, parts_key ts h1]
  have hsz : k.size ≤ 120 := by
    have : k.data.toList.length = k.size := by simp
    rw [hd] at this
    omega
  unfold splitO
  rw [hp, if_pos ⟨by rw [hd, body_key ts h1]; exact (trim_end _).1, hsz, h⟩]
theorem make_split {ts : List ByteArray} {k : ByteArray} (h : splitO k = some ts) : makeR ts = (k, 0) := by
  unfold splitO at h
  split at h
  · rename_i h1
    cases h
    exact h1.2.2
  · cases h
theorem OwnS.set {B : Nat} {w : World} {g n cap : Nat} {l : List ByteArray} (H : OwnS B w (.slice (some ⟨g, 0, none⟩) n cap) l) (k : Nat) (hk : k < l.length) (x : ByteArray) :
    OwnS B (w.setCell ⟨g, k, none⟩ (.string x)) (.slice (some ⟨g, 0, none⟩) n cap) (l.set k x) ∧ B ≤ g ∧ w.cell? ⟨g, k, none⟩ = some (.string (l.getD k ⟨#[]⟩)) ∧ w.frozen? ⟨g, k, none⟩ = false ∧ n = l.length := by
  obtain ⟨h1, ⟨hv, hn⟩ | ⟨g', cap', cur, hv, hb, hg, hn, hm, hs, ht⟩⟩ := H
  · cases hv
  · simp only [Value.slice.injEq, Option.some.injEq, Addr.mk.injEq, and_true] at hv
    obtain ⟨rfl, rfl, rfl⟩ := hv
    have hcur : k < cur.size := by omega
    have hc : cur.toList[k]? = (cellsS l)[k]? := by
      rw [← ht, List.getElem?_take_of_lt (by omega)]
    refine ⟨⟨by simp [cellsS], .inr ⟨g, cap, cur.set! k (.string x), by simp, hb, ?_, by simpa using hn, hm, by simpa using hs, ?_⟩⟩, hb, ?_, frozen_of_row _ _ _ _ _ hg, rfl⟩
    · simp [World.setCell, Array.getElem?_modify, hg]
    · rw [Array.set!_eq_setIfInBounds, Array.toList_setIfInBounds, List.take_set, List.length_set, ht]
      simp [cellsS, List.map_set]
    · rw [cell_of_row _ _ _ _ _ _ hg, ← Array.getElem?_toList, hc, cellsS_at l k hk]
theorem piece_le (k : Nat) : ∀ (s : List UInt8), ∀ p ∈ Lib.splitK [0, 1] 0 k s, p.length ≤ s.length := by
  induction k with
  | zero => intro s p hp; simp [Lib.splitK] at hp; rw [hp]; exact Nat.le_refl _
  | succ k ih =>
    intro s p hp
    rw [Lib.splitK] at hp
    split at hp
    · simp at hp; rw [hp]; exact Nat.le_refl _
    · rcases List.mem_cons.1 hp with rfl | hp
      · rw [List.length_take]; omega
      · have := ih _ p hp
        rw [List.length_drop] at this
        omega
theorem all_le : ∀ (n : Nat) (s : List UInt8), s.length ≤ n → (Lib.replaceAll s [0, 255] [0]).length ≤ s.length
  | n, s, hn => by
    rcases Lib.index_spec s [0, 255] with h | ⟨i, hi, _⟩
    · rw [all_miss _ _ _ h.1]; exact Nat.le_refl _
    · have hr := Lib.index_room s [0, 255] (by omega)
      rw [hi] at hr
      have hr' : i + 2 ≤ s.length := by simp at hr; omega
      rw [all_hit _ _ _ i (by simp) (by simp) hi]
      cases n with
      | zero => omega
      | succ n =>
        have := all_le n (s.drop (i + [(0 : UInt8), 255].length)) (by rw [List.length_drop]; simp; omega)
        rw [List.length_append, List.length_append, List.length_take]
        rw [List.length_drop] at this
        simp only [List.length_cons, List.length_nil] at this ⊢
        omega
def dec (t : ByteArray) : ByteArray := bytesOf (Lib.replaceAll t.data.toList [0, 255] [0])
theorem dec_size (t : ByteArray) : (dec t).size ≤ t.size := by
  have h := all_le _ t.data.toList (Nat.le_refl _)
  have e : t.data.toList.length = t.size := by simp
  have e2 : (dec t).size = (Lib.replaceAll t.data.toList [0, 255] [0]).length := by simp [dec, bytesOf, ByteArray.size]
  omega
end Go.Proofs.YtehgnbgbmicheaaGreatDoor.K
end S8

section S9
namespace Go.Proofs.YtehgnbgbmicheaaGreatDoor.K
open Go.RowKit
theorem pieces_data (r : ByteArray) : (Lib.splitB ⟨#[0, 1]⟩ 0 (Lib.countB r ⟨#[0, 1]⟩) r).map (·.data.toList) = Lib.splitK [0, 1] 0 (Lib.count r.data.toList [0, 1]) r.data.toList := Lib.splitB_data ⟨#[0, 1]⟩ 0 (Lib.countB r ⟨#[0, 1]⟩) r
theorem pieces_dec (r : ByteArray) : (Lib.splitB ⟨#[0, 1]⟩ 0 (Lib.countB r ⟨#[0, 1]⟩) r).map dec = (Lib.splitK [0, 1] 0 (Lib.count r.data.toList [0, 1]) r.data.toList).map fun p => bytesOf (Lib.replaceAll p [0, 255] [0]) := by
  rw [← pieces_data, List.map_map]
  rfl
theorem pieces_size (r : ByteArray) : ∀ t ∈ Lib.splitB ⟨#[0, 1]⟩ 0 (Lib.countB r ⟨#[0, 1]⟩) r, t.size ≤ r.size := by
  intro t ht
  have h1 : t.data.toList ∈ (Lib.splitB ⟨#[0, 1]⟩ 0 (Lib.countB r ⟨#[0, 1]⟩) r).map (·.data.toList) := List.mem_map_of_mem ht
  rw [pieces_data] at h1
  have h2 := piece_le _ _ _ h1
  have e1 : t.data.toList.length = t.size := by simp
  have e2 : r.data.toList.length = r.size := by simp
  omega
/-- The first so many done. -/
def done (ts : List ByteArray) (k : Nat) : List ByteArray := (ts.take k).map dec ++ ts.drop k
theorem done_length (ts : List ByteArray) (k : Nat) : (done ts k).length = ts.length := by
  unfold done
  rw [List.length_append, List.length_map, List.length_take, List.length_drop]; omega
theorem done_at (ts : List ByteArray) (k : Nat) (h : k < ts.length) : (done ts k).getD k ⟨#[]⟩ = ts.getD k ⟨#[]⟩ := by
  unfold done
  rw [List.getD_eq_getElem?_getD, List.getD_eq_getElem?_getD, List.getElem?_append_right (by rw [List.length_map, List.length_take]; omega), List.length_map, List.length_take, List.getElem?_drop, Nat.min_eq_left (by omega), Nat.sub_self, Nat.add_zero]
theorem done_set (ts : List ByteArray) (k : Nat) (h : k < ts.length) : (done ts k).set k (dec (ts.getD k ⟨#[]⟩)) = done ts (k + 1) := by
  unfold done
  have hl : ((ts.take k).map dec).length = k := by rw [List.length_map, List.length_take]; omega
  rw [List.set_append_right _ _ (by omega), hl, Nat.sub_self]
  have hd : ts.drop k = ts.getD k ⟨#[]⟩ :: ts.drop (k + 1) := by
    rw [List.getD_eq_getElem?_getD, List.getElem?_eq_getElem h]
    simp
  rw [hd, List.set_cons_zero, take_one ts k ⟨#[]⟩ h, List.map_append]
  simp
theorem done_all (ts : List ByteArray) : done ts ts.length = ts.map dec := by
  unfold done
  rw [List.take_length, List.drop_length, List.append_nil]
end Go.Proofs.YtehgnbgbmicheaaGreatDoor.K
end S9

section S10
namespace Go.Proofs.YtehgnbgbmicheaaGreatDoor.K
open Go.RowKit
theorem strs_built (w : World) (ts : List ByteArray) (cs : Array Value) (n : Nat) (hc : cs = (ts.map Value.string).toArray) (hn : n = ts.length) (hl : ts.length ≤ maxLen) : Strs (w.alloc (.cells cs 9)) (.slice (some ⟨w.heap.size, 0, none⟩) n n) ts := by
  subst hc hn
  refine ⟨_, ts.length, rfl, Nat.le_refl _, hl, (fun h => by cases h), fun k hk => ⟨w.heap.size, 0, rfl, ?_⟩⟩
  rw [Nat.zero_add, World.cell?_alloc_new, ← Array.getElem?_toList]
  exact cellsS_at ts k hk
theorem below_built (w : World) (o : Obj) : Below w.heap.size w (w.alloc o) := (Below.refl _ w).alloc (Nat.le_refl _) _
def ab : List ByteArray := [⟨#[97]⟩, ⟨#[98]⟩]
theorem make_ab : makeR ab = (⟨#[97, 0, 1, 98, 0, 1]⟩, 0) := by decide
theorem split_ab : splitE ⟨#[97, 0, 1, 98, 0, 1]⟩ = 0 ∧ splitT ⟨#[97, 0, 1, 98, 0, 1]⟩ = ab := by
  unfold splitE splitT
  rw [split_make make_ab]
  exact ⟨rfl, rfl⟩
end Go.Proofs.YtehgnbgbmicheaaGreatDoor.K
end S10
