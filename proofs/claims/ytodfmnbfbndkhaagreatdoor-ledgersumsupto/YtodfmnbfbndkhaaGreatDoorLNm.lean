/-
  label.Name: of every text.
-/
import Derived.Test.YtodfmnbfbndkhaaGreatDoorRows
import Derived.Test.YtodfmnbfbndkhaaGreatDoorShelf
import Derived.WalkKit
import Derived.WalkSpells
import Derived.WalkLawsBesides
import Derived.Handy
import Derived.Lib.Walk
import Derived.Lib.Hide
import Derived.Lib.SliceRun
import Derived.BigQuiet
import Derived.Deep.QuietTactic
import Derived.Deep.LoopGhost
import Derived.Laws.RangeString
import Derived.Laws.RangeAny
import Derived.Laws.Runes
import Derived.LoopTactic
namespace Go.Proofs.YtodfmnbfbndkhaaGreatDoor.L
open Go.RowKit Go.Lib
/-- A letter a to z or a digit. -/
def plainN (n : Nat) : Bool := (decide (97 ≤ n) && decide (n ≤ 122)) || (decide (48 ≤ n) && decide (n ≤ 57))
/-- The byte at a place may stand there in a name. -/
def okAt (s : ByteArray) (i : Nat) : Bool := plainN (s.get! i).toNat || (decide (0 < i) && decide (i + 1 < s.size) && decide ((s.get! i).toNat = 45))
def nameB (s : ByteArray) : Bool := decide (0 < s.size) && decide (s.size ≤ 32) && (List.range s.size).all (okAt s)
theorem nameB_true {s : ByteArray} (h0 : 0 < s.size) (h1 : s.size ≤ 32) (h : ∀ i, i < s.size → okAt s i = true) : nameB s = true := by
  unfold nameB
  rw [decide_eq_true h0, decide_eq_true h1, Bool.true_and, Bool.true_and, List.all_eq_true]
  exact fun i hi => h i (List.mem_range.1 hi)
theorem nameB_false {s : ByteArray} {i : Nat} (hi : i < s.size) (h : okAt s i = false) : nameB s = false := by
  unfold nameB
  have : (List.range s.size).all (okAt s) = false := by
    rw [List.all_eq_false]
    exact ⟨i, List.mem_range.2 hi, by rw [h]; exact Bool.false_ne_true⟩
  rw [this, Bool.and_false]
set_option maxHeartbeats 1000000 in
theorem plain_any (x : Int) (b : Bool) (hb : b = ((decide (97 ≤ x) && decide (x ≤ 122)) || (decide (48 ≤ x) && decide (x ≤ 57)))) (w : World) : Calls Tryz.prog 156 #[.int .i32 x] w fun e w' => e = .returned (.bool b) ∧ w' = w := by
  subst hb
  go_enter Tryz.func156, Tryz.ntmps156
  by_cases h1 : 97 ≤ x
  · by_cases h2 : x ≤ 122
    · have g1 : decide (x ≥ 97) = true := decide_eq_true h1
      have g2 : decide (x ≤ 122) = true := decide_eq_true h2
      go_wp2
      go_ret
      simp [h1, h2]
    · have g1 : decide (x ≥ 97) = true := decide_eq_true h1
      have g2 : decide (x ≤ 122) = false := decide_eq_false h2
      have g3 : decide (x ≥ 48) = true := decide_eq_true (by omega)
      have g4 : decide (x ≤ 57) = false := decide_eq_false (by omega)
      go_wp2
      go_ret
      simp
  · have g1 : decide (x ≥ 97) = false := decide_eq_false h1
    by_cases h3 : 48 ≤ x
    · have g3 : decide (x ≥ 48) = true := decide_eq_true h3
      go_wp2
      go_ret
      simp
    · have g3 : decide (x ≥ 48) = false := decide_eq_false h3
      go_wp2
      go_ret
      simp
theorem list_of_bytes (s : ByteArray) : s.toList = s.data.toList := ByteArray.toList_eq s
theorem plainN_int (n : Nat) : plainN n = ((decide (97 ≤ (n : Int)) && decide ((n : Int) ≤ 122)) || (decide (48 ≤ (n : Int)) && decide ((n : Int) ≤ 57))) := by
  unfold plainN
  congr 1
  · congr 1
    · exact decide_eq_decide.2 (by omega)
    · exact decide_eq_decide.2 (by omega)
  · congr 1
    · exact decide_eq_decide.2 (by omega)
    · exact decide_eq_decide.2 (by omega)
theorem get_lit (s : ByteArray) (i : Nat) (h : i < s.size) : s.get! i = s[i]'h := by
  simp [ByteArray.get!, getElem!_pos, h]
  rfl
/-- The letter that a range tells at a place, and how far it goes. -/
theorem letter_at (s : ByteArray) (pos : Nat) (h : pos < s.size) : ((Utf8.decode s pos) = ((s.get! pos).toNat, 1) ∧ (s.get! pos).toNat < 128) ∨ (128 ≤ (Utf8.decode s pos).1 ∧ 128 ≤ (s.get! pos).toNat) := by
  rw [get_lit s pos h]
  by_cases ha : (s[pos]'h).toNat < 128
  · exact .inl ⟨decode_ascii s pos h ha, ha⟩
  · exact .inr ⟨(decode_high s pos h (by omega)).1, by omega⟩
theorem grow_ok {s : ByteArray} {pos : Nat} (h : ∀ i, i < pos → i < s.size → okAt s i = true) (ha : okAt s pos = true) : ∀ i, i < pos + 1 → i < s.size → okAt s i = true := fun i hi hs => by
  by_cases e : i = pos
  · rw [e]; exact ha
  · exact h i (by omega) hs
set_option maxHeartbeats 4000000 in
set_option maxRecDepth 1000000 in
theorem name_any (s : ByteArray) (w : World) : Calls Tryz.prog 135 #[.string s] w fun e w' => e = .returned (.bool (nameB s)) ∧ Below w.heap.size w w' := by
  go_enter Tryz.func135, Tryz.ntmps135
  by_cases h0 : s.size = 0
  · have e0 : s = ⟨#[]⟩ := by
      obtain ⟨⟨l⟩⟩ := s
      have : l = [] := List.length_eq_zero_iff.1 h0
      subst this
      rfl
    subst e0
    go_wp2
    go_ret
    exact ⟨rfl, Below.refl _ _⟩
  have hne : s.toList.isEmpty = false := by
    rw [list_of_bytes]
    obtain ⟨⟨l⟩⟩ := s
    cases l with
    | nil => exact absurd rfl h0
    | cons x r => rfl
  by_cases h1 : 32 < s.size
  · have g : decide ((s.size : Int) > 32) = true := decide_eq_true (by omega)
    have e : nameB s = false := by
      unfold nameB
      rw [decide_eq_false (show ¬ s.size ≤ 32 by omega), Bool.and_false, Bool.false_and]
    rw [e]
    go_wp2
    go_ret
    exact ⟨rfl, Below.refl _ _⟩
  have g : decide ((s.size : Int) > 32) = false := decide_eq_false (by omega)
  go_wp2
  go_loopw [3] (fun _ w' => ∃ pos, w' = w.iter s pos ∧ ∀ i, i < pos → i < s.size → okAt s i = true) (fun _ w' => s.size - w'.iterPos w.heap.size)
  case atStart => exact ⟨0, rfl, fun i h => by omega⟩
  case round =>
    obtain ⟨pos, rfl, hok⟩ := hrel
    by_cases hp : pos < s.size
    · have hnx : ∀ ty, (Instr.next (.pointer (some ⟨w.heap.size, 0, none⟩)) true ty).run Tryz.prog (w.iter s pos) = _ := fun ty => run_next_any w s pos ty hp
      have B : ∀ q, Below w.heap.size w (w.iter s q) := fun q => (Below.refl _ w).alloc (Nat.le_refl _) _
      have BH := Lib.hid B
      have OK := Lib.hid hok
      clear B hok
      have w1 : wrap64 ((s.size : Int) - 1) = (s.size : Int) - 1 := by unfold wrap64; omega
      rcases letter_at s pos hp with ⟨hd, hlt⟩ | ⟨hd, hlt⟩
      · rw [hd] at hnx
        obtain ⟨c, hc⟩ : ∃ c, c = (s.get! pos).toNat := ⟨_, rfl⟩
        rw [← hc] at hnx hlt
        clear hd
        cases hpl : plainN c with
        | true =>
          have HC : Hid (∀ W, Calls Tryz.prog 156 #[.int .i32 (c : Int)] W fun e w' => e = .returned (.bool true) ∧ w' = W) := fun W => plain_any _ true (by rw [← hpl, plainN_int]) W
          have hA : Hid (okAt s pos = true) := Lib.hid (by unfold okAt; rw [← hc, hpl, Bool.true_or])
          clear hc
          rcases (by omega : (0 < pos ∧ pos + 1 < s.size) ∨ (0 < pos ∧ ¬ pos + 1 < s.size) ∨ ¬ 0 < pos) with hin | hin | hin
          · have g1 : decide ((pos : Int) > 0) = true := decide_eq_true (by omega)
            have g2 : decide ((pos : Int) < (s.size : Int) - 1) = true := decide_eq_true (by omega)
            go_wp2_with (go_at_call 156; refine (HC.out _).mono ?_; rintro e w' ⟨rfl, rfl⟩)
            go_roundw
            case rel => exact ⟨pos + 1, rfl, grow_ok OK.out hA.out⟩
            case measure => simp; omega
          · have g1 : decide ((pos : Int) > 0) = true := decide_eq_true (by omega)
            have g2 : decide ((pos : Int) < (s.size : Int) - 1) = false := decide_eq_false (by omega)
            go_wp2_with (go_at_call 156; refine (HC.out _).mono ?_; rintro e w' ⟨rfl, rfl⟩)
            go_roundw
            case rel => exact ⟨pos + 1, rfl, grow_ok OK.out hA.out⟩
            case measure => simp; omega
          · have g1 : decide ((pos : Int) > 0) = false := decide_eq_false (by omega)
            go_wp2_with (go_at_call 156; refine (HC.out _).mono ?_; rintro e w' ⟨rfl, rfl⟩)
            go_roundw
            case rel => exact ⟨pos + 1, rfl, grow_ok OK.out hA.out⟩
            case measure => simp; omega
        | false =>
          have HC : Hid (∀ W, Calls Tryz.prog 156 #[.int .i32 (c : Int)] W fun e w' => e = .returned (.bool false) ∧ w' = W) := fun W => plain_any _ false (by rw [← hpl, plainN_int]) W
          rcases (by omega : (0 < pos ∧ pos + 1 < s.size) ∨ (0 < pos ∧ ¬ pos + 1 < s.size) ∨ ¬ 0 < pos) with hin | hin | hin
          · have g1 : decide ((pos : Int) > 0) = true := decide_eq_true (by omega)
            have g2 : decide ((pos : Int) < (s.size : Int) - 1) = true := decide_eq_true (by omega)
            by_cases hm : c = 45
            · have g3 : ((c : Int) == 45) = true := by rw [beq_iff_eq]; omega
              have hA : Hid (okAt s pos = true) := Lib.hid (by unfold okAt; rw [← hc, hpl, decide_eq_true hin.1, decide_eq_true hin.2, decide_eq_true hm]; rfl)
              clear hc hm
              go_wp2_with (go_at_call 156; refine (HC.out _).mono ?_; rintro e w' ⟨rfl, rfl⟩)
              go_roundw
              case rel => exact ⟨pos + 1, rfl, grow_ok OK.out hA.out⟩
              case measure => simp; omega
            · have g3 : ((c : Int) == 45) = false := by rw [beq_eq_false_iff_ne]; omega
              have hA : Hid (nameB s = false) := Lib.hid (nameB_false hp (by unfold okAt; rw [← hc, hpl, decide_eq_false hm, Bool.and_false]; rfl))
              clear hc hm
              go_wp2_with (go_at_call 156; refine (HC.out _).mono ?_; rintro e w' ⟨rfl, rfl⟩)
              go_ret
              exact ⟨by rw [hA.out]; rfl, BH.out _⟩
          · have g1 : decide ((pos : Int) > 0) = true := decide_eq_true (by omega)
            have g2 : decide ((pos : Int) < (s.size : Int) - 1) = false := decide_eq_false (by omega)
            have hA : Hid (nameB s = false) := Lib.hid (nameB_false hp (by unfold okAt; rw [← hc, hpl]; rw [decide_eq_false hin.2, Bool.and_false]; rfl))
            clear hc
            go_wp2_with (go_at_call 156; refine (HC.out _).mono ?_; rintro e w' ⟨rfl, rfl⟩)
            go_ret
            exact ⟨by rw [hA.out]; rfl, BH.out _⟩
          · have g1 : decide ((pos : Int) > 0) = false := decide_eq_false (by omega)
            have hA : Hid (nameB s = false) := Lib.hid (nameB_false hp (by unfold okAt; rw [← hc, hpl]; rw [decide_eq_false hin]; rfl))
            clear hc
            go_wp2_with (go_at_call 156; refine (HC.out _).mono ?_; rintro e w' ⟨rfl, rfl⟩)
            go_ret
            exact ⟨by rw [hA.out]; rfl, BH.out _⟩
      · obtain ⟨⟨l, q⟩, hlq⟩ : ∃ x, x = Utf8.decode s pos := ⟨_, rfl⟩
        rw [← hlq] at hnx hd
        have hl : 128 ≤ l := hd
        have HC : Hid (∀ W, Calls Tryz.prog 156 #[.int .i32 (l : Int)] W fun e w' => e = .returned (.bool false) ∧ w' = W) := fun W => plain_any _ false (by
          rw [decide_eq_false (show ¬ ((l : Int) ≤ 122) by omega), decide_eq_false (show ¬ ((l : Int) ≤ 57) by omega), Bool.and_false, Bool.and_false]; rfl) W
        have g3 : ((l : Int) == 45) = false := by rw [beq_eq_false_iff_ne]; omega
        have hA : Hid (nameB s = false) := Lib.hid (nameB_false hp (by
          unfold okAt plainN
          rw [decide_eq_false (show ¬ (s.get! pos).toNat ≤ 122 by omega), decide_eq_false (show ¬ (s.get! pos).toNat ≤ 57 by omega), decide_eq_false (show ¬ (s.get! pos).toNat = 45 by omega), Bool.and_false, Bool.and_false, Bool.and_false]; rfl))
        clear hlq hd hl hlt
        rcases (by omega : (0 < pos ∧ pos + 1 < s.size) ∨ (0 < pos ∧ ¬ pos + 1 < s.size) ∨ ¬ 0 < pos) with hin | hin | hin
        · have g1 : decide ((pos : Int) > 0) = true := decide_eq_true (by omega)
          have g2 : decide ((pos : Int) < (s.size : Int) - 1) = true := decide_eq_true (by omega)
          go_wp2_with (go_at_call 156; refine (HC.out _).mono ?_; rintro e w' ⟨rfl, rfl⟩)
          go_ret
          exact ⟨by rw [hA.out]; rfl, BH.out _⟩
        · have g1 : decide ((pos : Int) > 0) = true := decide_eq_true (by omega)
          have g2 : decide ((pos : Int) < (s.size : Int) - 1) = false := decide_eq_false (by omega)
          go_wp2_with (go_at_call 156; refine (HC.out _).mono ?_; rintro e w' ⟨rfl, rfl⟩)
          go_ret
          exact ⟨by rw [hA.out]; rfl, BH.out _⟩
        · have g1 : decide ((pos : Int) > 0) = false := decide_eq_false (by omega)
          go_wp2_with (go_at_call 156; refine (HC.out _).mono ?_; rintro e w' ⟨rfl, rfl⟩)
          go_ret
          exact ⟨by rw [hA.out]; rfl, BH.out _⟩
    · have hnx : ∀ ty, (Instr.next (.pointer (some ⟨w.heap.size, 0, none⟩)) true ty).run Tryz.prog (w.iter s pos) = _ := fun ty => run_next_end w s pos ty hp
      have e : nameB s = true := nameB_true (by omega) (by omega) fun i hi => hok i (by omega) hi
      have E := Lib.hid e
      clear e
      go_wp2
      go_ret
      exact ⟨by rw [E.out]; rfl, (Below.refl _ w).alloc (Nat.le_refl _) _⟩
end Go.Proofs.YtodfmnbfbndkhaaGreatDoor.L
