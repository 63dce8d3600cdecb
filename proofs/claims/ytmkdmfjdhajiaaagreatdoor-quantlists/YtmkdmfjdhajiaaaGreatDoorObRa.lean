/-
  The document's digit, piece, Resource: of every text.
-/
import Derived.Test.YtmkdmfjdhajiaaaGreatDoorObQ
import Derived.Test.YtmkdmfjdhajiaaaGreatDoorLNm
namespace Go.Proofs.YtmkdmfjdhajiaaaGreatDoor
open Go.RowKit
theorem refDigit_any (c : Nat) (w : World) : Calls Tryz.prog 57 #[.int .u8 (c : Int)] w fun e w' => e = .returned (.bool (decide (48 ≤ c) && decide (c ≤ 57))) ∧ w' = w := by
  by_cases h : 48 ≤ c
  · have g : decide ((c : Int) ≥ 48) = true := decide_eq_true (by omega)
    have e2 : decide ((c : Int) ≤ 57) = decide (c ≤ 57) := by
      by_cases q : c ≤ 57
      · rw [decide_eq_true q]; exact decide_eq_true (by omega)
      · rw [decide_eq_false q]; exact decide_eq_false (by omega)
    rw [decide_eq_true h]
    go_enter Tryz.func57, Tryz.ntmps57
    go_wp2_with fail
    go_ret
    exact ⟨by first | rfl | (rw [Bool.true_and, ← e2]), rfl⟩
  · have g : decide ((c : Int) ≥ 48) = false := decide_eq_false (by omega)
    rw [decide_eq_false h]
    go_enter Tryz.func57, Tryz.ntmps57
    go_wp2_with fail
    go_ret
    exact ⟨rfl, rfl⟩
/-- A byte that the document lets stand in a piece, at its place. -/
def pkAt (t : ByteArray) (i : Nat) : Bool := L.plainN (t.get! i).toNat || (decide ((t.get! i).toNat = 45) && (!decide (i = 0) && !decide (i = t.size - 1)))
theorem pk_yes {t : ByteArray} (h0 : 0 < t.size) (h : ∀ i, i < t.size → pkAt t i = true) : pieceB t = true := by
  have a : ∀ i, i < t.size → (i = 0 ∨ i = t.size - 1) → (t.get! i).toNat ≠ 45 := by
    intro i hi ho e
    have := h i hi
    unfold pkAt L.plainN at this
    rw [e] at this
    rcases ho with rfl | rfl <;> simp at this
  unfold pieceB
  rw [decide_eq_true h0, decide_eq_false (a 0 h0 (.inl rfl)), decide_eq_false (a (t.size - 1) (by omega) (.inr rfl))]
  simp only [Bool.not_false, Bool.true_and]
  rw [List.all_eq_true]
  intro i hi
  have := h i (List.mem_range.1 hi)
  unfold pkAt at this
  unfold pcAt
  simp only [Bool.or_eq_true, Bool.and_eq_true] at this ⊢
  rcases this with q | q
  · exact .inr q
  · exact .inl q.1
theorem pk_no {t : ByteArray} {i : Nat} (hi : i < t.size) (h : pkAt t i = false) : pieceB t = false := by
  unfold pkAt at h
  by_cases e : (t.get! i).toNat = 45
  · rw [e] at h
    have ho : i = 0 ∨ i = t.size - 1 := by
      rcases Nat.eq_zero_or_pos i with q | q
      · exact .inl q
      · refine .inr ?_
        rcases Classical.em (i = t.size - 1) with z | z
        · exact z
        · rw [decide_eq_false (show ¬ i = 0 by omega), decide_eq_false z] at h; simp at h
    unfold pieceB
    rcases ho with q | q
    · rw [q] at e
      rw [decide_eq_true e]; simp
    · rw [← q]
      rw [decide_eq_true e]; simp
  · refine piece_no hi ?_
    unfold pcAt
    rw [decide_eq_false e] at h ⊢
    simp only [Bool.false_and, Bool.or_false] at h
    rw [h]; rfl
set_option maxHeartbeats 4000000 in
set_option maxRecDepth 100000 in
theorem refPiece_any (s : ByteArray) (w : World) (hs : s.size ≤ 140737488355328) : Calls Tryz.prog 42 #[.string s] w fun e w' => e = .returned (.bool (pieceB s)) ∧ w' = w := by
  have w1 : IntKind.i64.wrap ((s.size : Int) - 1) = (s.size : Int) - 1 := by rw [IntKind.wrap_i64]; omega
  go_enter Tryz.func42, Tryz.ntmps42
  go_wp2_with fail
  go_loopg [3] s.size (fun g si wr => ∃ (k : Nat), k ≤ s.size ∧ g = s.size - k ∧ si = .int .i64 k ∧ (∀ i, i < k → pkAt s i = true) ∧ wr = w)
  case atStart => exact ⟨0, Nat.zero_le _, rfl, rfl, fun i h => by omega, rfl⟩
  case round =>
    obtain ⟨k, hk, hg, rfl, hok, rfl⟩ := hrel
    have R : Aside (gk = s.size - k ∧ ∀ i, i < k → pkAt s i = true) := ⟨hg, hok⟩
    clear hg hok
    by_cases hlt : k < s.size
    · have hlt' : (k : Int) < (s.size : Int) := by omega
      obtain ⟨c, hc⟩ : ∃ c, c = (s[k]'hlt).toNat := ⟨_, rfl⟩
      have C : Hid ((s.get! k).toNat = c) := Lib.hid (by rw [L.get_lit s k hlt]; exact hc.symm)
      have fc : ((s[k]'hlt).toNat : Int) = (c : Int) := by rw [hc]
      clear hc
      rcases (by omega : (c = 45) ∨ (c < 48 ∧ c ≠ 45) ∨ (48 ≤ c ∧ c ≤ 57) ∨ (58 ≤ c ∧ c ≤ 96) ∨ (97 ≤ c ∧ c ≤ 122) ∨ (122 < c)) with hx | hx | hx | hx | hx | hx
      · have gge97 : decide ((c : Int) ≥ 97) = false := decide_eq_false (by omega)
        have gne : ((c : Int) != 45) = false := by rw [bne_eq_false_iff_eq]; omega
        have X9 := Lib.hid hx
        have X := Lib.hid hx
        clear hx
        go_wp2_with fail
        refine (refDigit_any c wr).mono ?_
        rintro e w' ⟨rfl, rfl⟩
        rw [show (decide (48 ≤ c) && decide (c ≤ 57)) = false from (by have := X.out; simp only [Bool.and_eq_false_iff, decide_eq_false_iff_not]; omega)]
        clear X
        by_cases h0 : k = 0
        · have g0 : ((k : Int) == 0) = true := by rw [beq_iff_eq]; omega
          have hA : Hid (pieceB s = false) := Lib.hid (pk_no hlt (by unfold pkAt; rw [C.out, X9.out, decide_eq_true h0, show L.plainN 45 = false by decide]; simp))
          clear h0
          go_wp2_with fail
          go_ret
          exact ⟨by rw [hA.out]; rfl, rfl⟩
        · have g0 : ((k : Int) == 0) = false := by rw [beq_eq_false_iff_ne]; omega
          by_cases h1 : k = s.size - 1
          · have g1 : ((k : Int) == (s.size : Int) - 1) = true := by rw [beq_iff_eq]; omega
            have hA : Hid (pieceB s = false) := Lib.hid (pk_no hlt (by unfold pkAt; rw [C.out, X9.out, decide_eq_true h1, show L.plainN 45 = false by decide]; simp))
            clear h1 h0
            go_wp2_with fail
            go_ret
            exact ⟨by rw [hA.out]; rfl, rfl⟩
          · have g1 : ((k : Int) == (s.size : Int) - 1) = false := by rw [beq_eq_false_iff_ne]; omega
            have hA : Hid (pkAt s k = true) := Lib.hid (by unfold pkAt; rw [C.out, X9.out, decide_eq_false h0, decide_eq_false h1]; decide)
            go_wp2_with fail
            go_roundg (s.size - (k + 1))
            case measure => have := R.out.1; omega
            case rel => exact ⟨k + 1, by omega, rfl, by go_num, fun i hi => if q : i < k then R.out.2 i q else (by rw [show i = k by omega]; exact hA.out), rfl⟩
      · have gge97 : decide ((c : Int) ≥ 97) = false := decide_eq_false (by omega)
        have gne : ((c : Int) != 45) = true := by rw [bne_iff_ne]; omega
        have hA : Hid (pieceB s = false) := Lib.hid (pk_no hlt (by unfold pkAt; rw [C.out]; unfold L.plainN; rw [decide_eq_false (show ¬ c = 45 by omega)]; simp; omega))
        have X := Lib.hid hx
        clear hx
        go_wp2_with fail
        refine (refDigit_any c wr).mono ?_
        rintro e w' ⟨rfl, rfl⟩
        rw [show (decide (48 ≤ c) && decide (c ≤ 57)) = false from (by have := X.out; simp only [Bool.and_eq_false_iff, decide_eq_false_iff_not]; omega)]
        clear X
        go_wp2_with fail
        go_ret
        exact ⟨by rw [hA.out]; rfl, rfl⟩
      · have gge97 : decide ((c : Int) ≥ 97) = false := decide_eq_false (by omega)
        have hA : Hid (pkAt s k = true) := Lib.hid (by unfold pkAt; rw [C.out]; unfold L.plainN; simp [hx])
        have X := Lib.hid hx
        clear hx
        go_wp2_with fail
        refine (refDigit_any c wr).mono ?_
        rintro e w' ⟨rfl, rfl⟩
        rw [show (decide (48 ≤ c) && decide (c ≤ 57)) = true from (by have := X.out; rw [decide_eq_true (by omega), decide_eq_true (by omega)]; rfl)]
        clear X
        go_wp2_with fail
        go_roundg (s.size - (k + 1))
        case measure => have := R.out.1; omega
        case rel => exact ⟨k + 1, by omega, rfl, by go_num, fun i hi => if q : i < k then R.out.2 i q else (by rw [show i = k by omega]; exact hA.out), rfl⟩
      · have gge97 : decide ((c : Int) ≥ 97) = false := decide_eq_false (by omega)
        have gne : ((c : Int) != 45) = true := by rw [bne_iff_ne]; omega
        have hA : Hid (pieceB s = false) := Lib.hid (pk_no hlt (by unfold pkAt; rw [C.out]; unfold L.plainN; rw [decide_eq_false (show ¬ c = 45 by omega)]; simp; omega))
        have X := Lib.hid hx
        clear hx
        go_wp2_with fail
        refine (refDigit_any c wr).mono ?_
        rintro e w' ⟨rfl, rfl⟩
        rw [show (decide (48 ≤ c) && decide (c ≤ 57)) = false from (by have := X.out; simp only [Bool.and_eq_false_iff, decide_eq_false_iff_not]; omega)]
        clear X
        go_wp2_with fail
        go_ret
        exact ⟨by rw [hA.out]; rfl, rfl⟩
      · have gge97 : decide ((c : Int) ≥ 97) = true := decide_eq_true (by omega)
        have gle : decide ((c : Int) ≤ 122) = true := decide_eq_true (by omega)
        have hA : Hid (pkAt s k = true) := Lib.hid (by unfold pkAt; rw [C.out]; unfold L.plainN; simp [hx])
        clear hx
        go_wp2_with fail
        go_roundg (s.size - (k + 1))
        case measure => have := R.out.1; omega
        case rel => exact ⟨k + 1, by omega, rfl, by go_num, fun i hi => if q : i < k then R.out.2 i q else (by rw [show i = k by omega]; exact hA.out), rfl⟩
      · have gge97 : decide ((c : Int) ≥ 97) = true := decide_eq_true (by omega)
        have gle : decide ((c : Int) ≤ 122) = false := decide_eq_false (by omega)
        have gne : ((c : Int) != 45) = true := by rw [bne_iff_ne]; omega
        have hA : Hid (pieceB s = false) := Lib.hid (pk_no hlt (by unfold pkAt; rw [C.out]; unfold L.plainN; rw [decide_eq_false (show ¬ c = 45 by omega)]; simp; omega))
        have X := Lib.hid hx
        clear hx
        go_wp2_with fail
        refine (refDigit_any c wr).mono ?_
        rintro e w' ⟨rfl, rfl⟩
        rw [show (decide (48 ≤ c) && decide (c ≤ 57)) = false from (by have := X.out; simp only [Bool.and_eq_false_iff, decide_eq_false_iff_not]; omega)]
        clear X
        go_wp2_with fail
        go_ret
        exact ⟨by rw [hA.out]; rfl, rfl⟩
    · have ek : k = s.size := by omega
      have E : Hid (pieceB s = !(s.toList == [])) := Lib.hid (by
        by_cases h0 : 0 < s.size
        · rw [pk_yes (t := s) h0 (fun i hi => R.out.2 i (by omega))]
          have : s.toList ≠ [] := by intro q; have z : s.size = 0 := (by rw [← str_size s, ← ByteArray.toList_eq, q]; rfl); omega
          simp [this]
        · have z : s.size = 0 := by omega
          have : s.toList = [] := List.eq_nil_of_length_eq_zero (by have e : s.toList.length = s.size := (by rw [ByteArray.toList_eq, str_size]); omega)
          unfold pieceB
          rw [decide_eq_false h0, this]; rfl)
      go_wp2_with fail
      go_ret
      exact ⟨by rw [E.out]; first | rfl | simp, rfl⟩
end Go.Proofs.YtmkdmfjdhajiaaaGreatDoor
