/-
  A text cut at each slash.
-/
import Derived.Test.YtodfmnbfbndkhaaGreatDoorLJoinsM
import Derived.Lib.SplitLaws
import Derived.Lib.IndexBytes
namespace Go.Proofs.YtodfmnbfbndkhaaGreatDoor.L
open Go.RowKit
def pieces (c : UInt8) : List UInt8 → List (List UInt8)
  | [] => [[]]
  | b :: l => if b = c then [] :: pieces c l else (b :: (pieces c l).headD []) :: (pieces c l).tail
theorem pieces_ne (c : UInt8) (l : List UInt8) : pieces c l ≠ [] := by
  cases l with
  | nil => simp [pieces]
  | cons b l => unfold pieces; split <;> simp
theorem pieces_free (c : UInt8) (a : List UInt8) (h : c ∉ a) : pieces c a = [a] := by
  induction a with
  | nil => rfl
  | cons b a ih =>
    rw [List.mem_cons, not_or] at h
    unfold pieces
    rw [if_neg (fun e => h.1 e.symm), ih h.2]
    rfl
theorem pieces_app (c : UInt8) (a l : List UInt8) (h : c ∉ a) : pieces c (a ++ c :: l) = a :: pieces c l := by
  induction a with
  | nil => rw [List.nil_append, pieces, if_pos rfl]
  | cons b a ih =>
    rw [List.mem_cons, not_or] at h
    rw [List.cons_append, pieces, if_neg (fun e => h.1 e.symm), ih h.2]
    rfl
theorem index_free (c : UInt8) (a : List UInt8) (h : c ∉ a) : Lib.index a [c] = -1 := by
  rw [Lib.index_one]
  induction a with
  | nil => rfl
  | cons b a ih =>
    rw [List.mem_cons, not_or] at h
    unfold Lib.indexByte
    rw [if_neg (by rw [beq_iff_eq]; exact fun e => h.1 e.symm), ih h.2]
    rfl
theorem index_app (c : UInt8) (a l : List UInt8) (h : c ∉ a) : Lib.index (a ++ c :: l) [c] = a.length := by
  rw [Lib.index_one]
  induction a with
  | nil =>
    rw [List.nil_append, Lib.indexByte, if_pos (by simp)]
    rfl
  | cons b a ih =>
    rw [List.mem_cons, not_or] at h
    rw [List.cons_append, Lib.indexByte, if_neg (by rw [beq_iff_eq]; exact fun e => h.1 e.symm), ih h.2, if_neg (by rw [beq_iff_eq]; omega), List.length_cons]
    rfl
theorem cut_first (c : UInt8) (s : List UInt8) (h : c ∈ s) : ∃ a l, s = a ++ c :: l ∧ c ∉ a := by
  induction s with
  | nil => simp at h
  | cons b s ih =>
    by_cases e : b = c
    · exact ⟨[], s, by rw [e]; rfl, by simp⟩
    · rw [List.mem_cons] at h
      rcases h with h | h
      · exact absurd h.symm e
      · obtain ⟨a, l, rfl, ha⟩ := ih h
        exact ⟨b :: a, l, rfl, by rw [List.mem_cons, not_or]; exact ⟨fun h => e h.symm, ha⟩⟩
theorem splitK_pieces (c : UInt8) : ∀ (n : Nat) (s : List UInt8), s.length ≤ n → Lib.splitK [c] 0 (Lib.count s [c]) s = pieces c s
  | n, s, hn => by
    by_cases h : c ∈ s
    · obtain ⟨a, l, rfl, ha⟩ := cut_first c s h
      have hi := index_app c a l ha
      have hd : (a ++ c :: l).drop (a.length + [c].length) = l := by
        rw [List.length_singleton, ← List.drop_drop]
        simp
      rw [Lib.count_hit (by simp) hi, hd, Nat.add_comm, Lib.splitK, if_neg (by rw [hi, beq_iff_eq]; omega), hi]
      have e1 : (a ++ c :: l).take ((a.length : Int).toNat + 0) = a := by simp
      have e2 : (a ++ c :: l).drop ((a.length : Int).toNat + [c].length) = l := by rw [Int.toNat_natCast]; exact hd
      rw [e1, e2, pieces_app c a l ha]
      congr 1
      cases n with
      | zero => simp at hn
      | succ n => exact splitK_pieces c n l (by simp at hn; omega)
    · rw [Lib.count_miss (index_free c s h), pieces_free c s h]
      rfl
def bytesOf (l : List UInt8) : ByteArray := ⟨l.toArray⟩
theorem bytesOf_data (s : ByteArray) : bytesOf s.data.toList = s := by simp [bytesOf]
theorem splitB_pieces (c : UInt8) (s : ByteArray) : Lib.splitB ⟨#[c]⟩ 0 (Lib.countB s ⟨#[c]⟩) s = (pieces c s.data.toList).map bytesOf := by
  have h := Lib.splitB_data ⟨#[c]⟩ 0 (Lib.countB s ⟨#[c]⟩) s
  have e := splitK_pieces c _ s.data.toList (Nat.le_refl _)
  have h2 : (Lib.splitB ⟨#[c]⟩ 0 (Lib.countB s ⟨#[c]⟩) s).map (·.data.toList) = pieces c s.data.toList := h.trans e
  rw [← h2, List.map_map]
  conv => lhs; rw [← List.map_id (Lib.splitB ⟨#[c]⟩ 0 (Lib.countB s ⟨#[c]⟩) s)]
  congr 1
theorem name_free {t : ByteArray} (h : nameB t = true) : 47 ∉ t.data.toList := by
  intro hm
  obtain ⟨i, hi, e⟩ := List.getElem_of_mem hm
  have hi' : i < t.size := by simpa using hi
  unfold nameB at h
  simp only [Bool.and_eq_true, List.all_eq_true, List.mem_range] at h
  have hk := h.2 i hi'
  have hg : (t.get! i).toNat = 47 := by
    rw [get_lit t i hi']
    have : t[i]'hi' = 47 := by
      rw [← e]
      simp [ByteArray.getElem_eq_getElem_data]
    rw [this]
    rfl
  unfold okAt plainN at hk
  rw [hg] at hk
  simp at hk
theorem pieces_path (ts : List ByteArray) (h : ts.all nameB = true) (hne : ts ≠ []) : pieces 47 (pathOf ts).tail = ts.map (·.data.toList) := by
  induction ts with
  | nil => exact absurd rfl hne
  | cons t r ih =>
    rw [List.all_cons, Bool.and_eq_true] at h
    cases r with
    | nil => rw [show (pathOf [t]).tail = t.data.toList by simp [pathOf]]; exact pieces_free _ _ (name_free h.1)
    | cons u r =>
      have e : (pathOf (t :: u :: r)).tail = t.data.toList ++ 47 :: (pathOf (u :: r)).tail := by
        rw [pathOf, List.flatMap_cons, ← pathOf, show pathOf (u :: r) = 47 :: (pathOf (u :: r)).tail by simp [pathOf]]
        rfl
      rw [e, pieces_app _ _ _ (name_free h.1), ih h.2 (by simp)]
      rfl
end Go.Proofs.YtodfmnbfbndkhaaGreatDoor.L
