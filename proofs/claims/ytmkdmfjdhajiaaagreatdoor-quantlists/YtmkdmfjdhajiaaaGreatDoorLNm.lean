/-
  label.Name: of every text.
-/
import Derived.Test.YtmkdmfjdhajiaaaGreatDoorRows
import Derived.Test.YtmkdmfjdhajiaaaGreatDoorShelf
import Derived.WalkKit
import Derived.WalkSpells
import Derived.WalkLawsBesides
import Derived.Handy
import Derived.Lib.Walk
import Derived.Lib.Hide
import Derived.Lib.SliceRun
import Derived.BigQuiet
import Derived.Deep.QuietTactic
import Derived.Deep.LoopGhost
import Derived.Laws.RangeString
import Derived.Laws.RangeAny
import Derived.Laws.Runes
import Derived.LoopTactic
namespace Go.Proofs.YtmkdmfjdhajiaaaGreatDoor.L
open Go.RowKit Go.Lib
/-- A letter a to z or a digit. -/
def plainN (n : Nat) : Bool := (decide (97 ≤ n) && decide (n ≤ 122)) || (decide (48 ≤ n) && decide (n ≤ 57))
/-- The byte at a place may stand there in a name. -/
def okAt (s : ByteArray) (i : Nat) : Bool := plainN (s.get! i).toNat || (decide (0 < i) && decide (i + 1 < s.size) && decide ((s.get! i).toNat = 45))
def nameB (s : ByteArray) : Bool := decide (0 < s.size) && decide (s.size ≤ 32) && (List.range s.size).all (okAt s)
theorem nameB_true {s : ByteArray} (h0 : 0 < s.size) (h1 : s.size ≤ 32) (h : ∀ i, i < s.size → okAt s i = true) : nameB s = true := by
  unfold nameB
  rw [decide_eq_true h0, decide_eq_true h1, Bool.true_and, Bool.true_and, List.all_eq_true]
  exact fun i hi => h i (List.mem_range.1 hi)
theorem nameB_false {s : ByteArray} {i : Nat} (hi : i < s.size) (h : okAt s i = false) : nameB s = false := by
  unfold nameB
  have : (List.range s.size).all (okAt s) = false := by
    rw [List.all_eq_false]
    exact ⟨i, List.mem_range.2 hi, by rw [h]; exact Bool.false_ne_true⟩
  rw [this, Bool.and_false]
theorem list_of_bytes (s : ByteArray) : s.toList = s.data.toList := ByteArray.toList_eq s
theorem plainN_int (n : Nat) : plainN n = ((decide (97 ≤ (n : Int)) && decide ((n : Int) ≤ 122)) || (decide (48 ≤ (n : Int)) && decide ((n : Int) ≤ 57))) := by
  unfold plainN
  congr 1
  · congr 1
    · exact decide_eq_decide.2 (by omega)
    · exact decide_eq_decide.2 (by omega)
  · congr 1
    · exact decide_eq_decide.2 (by omega)
    · exact decide_eq_decide.2 (by omega)
theorem get_lit (s : ByteArray) (i : Nat) (h : i < s.size) : s.get! i = s[i]'h := by
  simp [ByteArray.get!, getElem!_pos, h]
  rfl
/-- The letter that a range tells at a place, and how far it goes. -/
theorem letter_at (s : ByteArray) (pos : Nat) (h : pos < s.size) : ((Utf8.decode s pos) = ((s.get! pos).toNat, 1) ∧ (s.get! pos).toNat < 128) ∨ (128 ≤ (Utf8.decode s pos).1 ∧ 128 ≤ (s.get! pos).toNat) := by
  rw [get_lit s pos h]
  by_cases ha : (s[pos]'h).toNat < 128
  · exact .inl ⟨decode_ascii s pos h ha, ha⟩
  · exact .inr ⟨(decode_high s pos h (by omega)).1, by omega⟩
theorem grow_ok {s : ByteArray} {pos : Nat} (h : ∀ i, i < pos → i < s.size → okAt s i = true) (ha : okAt s pos = true) : ∀ i, i < pos + 1 → i < s.size → okAt s i = true := fun i hi hs => by
  by_cases e : i = pos
  · rw [e]; exact ha
  · exact h i (by omega) hs
end Go.Proofs.YtmkdmfjdhajiaaaGreatDoor.L
