/-
  ObRa, ObRb, ObRc, ObRi, ObRn, joined.
-/
import Derived.Test.YtanpneahembhbaaGreatDoorObQ
import Derived.Test.YtanpneahembhbaaGreatDoorLNm
import Derived.Test.YtanpneahembhbaaGreatDoorM1
import Derived.Lib.QuietBelow
import Derived.BigQuiet
section S0
namespace Go.Proofs.YtanpneahembhbaaGreatDoor
open Go.RowKit
theorem refDigit_any (c : Nat) (w : World) : Calls Tryz.prog 126 #[.int .u8 (c : Int)] w fun e w' => e = .returned (.bool (decide (48 ≤ c) && decide (c ≤ 57))) ∧ w' = w := by
  by_cases h : 48 ≤ c
  · have g : decide ((c : Int) ≥ 48) = true := decide_eq_true (by omega)
    have e2 : decide ((c : Int) ≤ 57) = decide (c ≤ 57) := by
      by_cases q : c ≤ 57
      · rw [decide_eq_true q]; exact decide_eq_true (by omega)
      · rw [decide_eq_false q]; exact decide_eq_false (by omega)
    rw [decide_eq_true h]
    go_enter Tryz.func126, Tryz.ntmps126
    go_wp2_with fail
    go_ret
    exact ⟨by first | rfl | (rw [Bool.true_and, ← e2]), rfl⟩
  · have g : decide ((c : Int) ≥ 48) = false := decide_eq_false (by omega)
    rw [decide_eq_false h]
    go_enter Tryz.func126, Tryz.ntmps126
    go_wp2_with fail
    go_ret
    exact ⟨rfl, rfl⟩
/-- A byte that the document lets stand in a piece, at its place. -/
def pkAt (t : ByteArray) (i : Nat) : Bool := L.plainN (t.get! i).toNat || (decide ((t.get! i).toNat = 45) && (!decide (i = 0) && !decide (i = t.size - 1)))
theorem pk_yes {t : ByteArray} (h0 : 0 < t.size) (h : ∀ i, i < t.size → pkAt t i = true) : pieceB t = true := by
  have a : ∀ i, i < t.size → (i = 0 ∨ i = t.size - 1) → (t.get! i).toNat ≠ 45 := by
    intro i hi ho e
    have := h i hi
    unfold pkAt L.plainN at this
    rw [e] at this
    rcases ho with rfl | rfl <;> simp at this
  unfold pieceB
  rw [decide_eq_true h0, decide_eq_false (a 0 h0 (.inl rfl)), decide_eq_false (a (t.size - 1) (by omega) (.inr rfl))]
  simp only [Bool.not_false, Bool.true_and]
  rw [List.all_eq_true]
  intro i hi
  have := h i (List.mem_range.1 hi)
  unfold pkAt at this
  unfold pcAt
  simp only [Bool.or_eq_true, Bool.and_eq_true] at this ⊢
  rcases this with q | q
  · exact .inr q
  · exact .inl q.1
theorem pk_no {t : ByteArray} {i : Nat} (hi : i < t.size) (h : pkAt t i = false) : pieceB t = false := by
  unfold pkAt at h
  by_cases e : (t.get! i).toNat = 45
  · rw [e] at h
    have ho : i = 0 ∨ i = t.size - 1 := by
      rcases Nat.eq_zero_or_pos i with q | q
      · exact .inl q
      · refine .inr ?_
        rcases Classical.em (i = t.size - 1) with z | z
        · exact z
        · rw [decide_eq_false (show ¬ i = 0 by omega), decide_eq_false z] at h; simp at h
    unfold pieceB
    rcases ho with q | q
    · rw [q] at e
      rw [decide_eq_true e]; simp
    · rw [← q]
      rw [decide_eq_true e]; simp
  · refine piece_no hi ?_
    unfold pcAt
    rw [decide_eq_false e] at h ⊢
    simp only [Bool.false_and, Bool.or_false] at h
    rw [h]; rfl
set_option maxHeartbeats 4000000 in
set_option maxRecDepth 100000 in
theorem refPiece_any (s : ByteArray) (w : World) (hs : s.size ≤ 140737488355328) : Calls Tryz.prog 114 #[.string s] w fun e w' => e = .returned (.bool (pieceB s)) ∧ w' = w := by
  have w1 : IntKind.i64.wrap ((s.size : Int) - 1) = (s.size : Int) - 1 := by rw [IntKind.wrap_i64]; omega
  go_enter Tryz.func114, Tryz.ntmps114
  go_wp2_with fail
  go_loopg [3] s.size (fun g si wr => ∃ (k : Nat), k ≤ s.size ∧ g = s.size - k ∧ si = .int .i64 k ∧ (∀ i, i < k → pkAt s i = true) ∧ wr = w)
  case atStart => exact ⟨0, Nat.zero_le _, rfl, rfl, fun i h => by omega, rfl⟩
  case round =>
    obtain ⟨k, hk, hg, rfl, hok, rfl⟩ := hrel
    have R : Aside (gk = s.size - k ∧ ∀ i, i < k → pkAt s i = true) := ⟨hg, hok⟩
    clear hg hok
    by_cases hlt : k < s.size
    · have hlt' : (k : Int) < (s.size : Int) := by omega
      obtain ⟨c, hc⟩ : ∃ c, c = (s[k]'hlt).toNat := ⟨_, rfl⟩
      have C : Hid ((s.get! k).toNat = c) := Lib.hid (by rw [L.get_lit s k hlt]; exact hc.symm)
      have fc : ((s[k]'hlt).toNat : Int) = (c : Int) := by rw [hc]
      clear hc
      rcases (by omega : (c = 45) ∨ (c < 48 ∧ c ≠ 45) ∨ (48 ≤ c ∧ c ≤ 57) ∨ (58 ≤ c ∧ c ≤ 96) ∨ (97 ≤ c ∧ c ≤ 122) ∨ (122 < c)) with hx | hx | hx | hx | hx | hx
      · have gge97 : decide ((c : Int) ≥ 97) = false := decide_eq_false (by omega)
        have gne : ((c : Int) != 45) = false := by rw [bne_eq_false_iff_eq]; omega
        have X9 := Lib.hid hx
        have X := Lib.hid hx
        clear hx
        go_wp2_with fail
        refine (refDigit_any c wr).mono ?_
        rintro e w' ⟨rfl, rfl⟩
        rw [show (decide (48 ≤ c) && decide (c ≤ 57)) = false from (by have := X.out; simp only [Bool.and_eq_false_iff, decide_eq_false_iff_not]; omega)]
        clear X
        by_cases h0 : k = 0
        · have g0 : ((k : Int) == 0) = true := by rw [beq_iff_eq]; omega
          have hA : Hid (pieceB s = false) := Lib.hid (pk_no hlt (by unfold pkAt; rw [C.out, X9.out, decide_eq_true h0, show L.plainN 45 = false by decide]; simp))
          clear h0
          go_wp2_with fail
          go_ret
          exact ⟨by rw [hA.out]; rfl, rfl⟩
        · have g0 : ((k : Int) == 0) = false := by rw [beq_eq_false_iff_ne]; omega
          by_cases h1 : k = s.size - 1
          · have g1 : ((k : Int) == (s.size : Int) - 1) = true := by rw [beq_iff_eq]; omega
            have hA : Hid (pieceB s = false) := Lib.hid (pk_no hlt (by unfold pkAt; rw [C.out, X9.out, decide_eq_true h1, show L.plainN 45 = false by decide]; simp))
            clear h1 h0
            go_wp2_with fail
            go_ret
            exact ⟨by rw [hA.out]; rfl, rfl⟩
          · have g1 : ((k : Int) == (s.size : Int) - 1) = false := by rw [beq_eq_false_iff_ne]; omega
            have hA : Hid (pkAt s k = true) := Lib.hid (by unfold pkAt; rw [C.out, X9.out, decide_eq_false h0, decide_eq_false h1]; decide)
            go_wp2_with fail
            go_roundg (s.size - (k + 1))
            case measure => have := R.out.1; omega
            case rel => exact ⟨k + 1, by omega, rfl, by go_num, fun i hi => if q : i < k then R.out.2 i q else (by rw [show i = k by omega]; exact hA.out), rfl⟩
      · have gge97 : decide ((c : Int) ≥ 97) = false := decide_eq_false (by omega)
        have gne : ((c : Int) != 45) = true := by rw [bne_iff_ne]; omega
        have hA : Hid (pieceB s = false) := Lib.hid (pk_no hlt (by unfold pkAt; rw [C.out]; unfold L.plainN; rw [decide_eq_false (show ¬ c = 45 by omega)]; simp; omega))
        have X := Lib.hid hx
        clear hx
        go_wp2_with fail
        refine (refDigit_any c wr).mono ?_
        rintro e w' ⟨rfl, rfl⟩
        rw [show (decide (48 ≤ c) && decide (c ≤ 57)) = false from (by have := X.out; simp only [Bool.and_eq_false_iff, decide_eq_false_iff_not]; omega)]
        clear X
        go_wp2_with fail
        go_ret
        exact ⟨by rw [hA.out]; rfl, rfl⟩
      · have gge97 : decide ((c : Int) ≥ 97) = false := decide_eq_false (by omega)
        have hA : Hid (pkAt s k = true) := Lib.hid (by unfold pkAt; rw [C.out]; unfold L.plainN; simp [hx])
        have X := Lib.hid hx
        clear hx
        go_wp2_with fail
        refine (refDigit_any c wr).mono ?_
        rintro e w' ⟨rfl, rfl⟩
        rw [show (decide (48 ≤ c) && decide (c ≤ 57)) = true from (by have := X.out; rw [decide_eq_true (by omega), decide_eq_true (by omega)]; rfl)]
        clear X
        go_wp2_with fail
        go_roundg (s.size - (k + 1))
        case measure => have := R.out.1; omega
        case rel => exact ⟨k + 1, by omega, rfl, by go_num, fun i hi => if q : i < k then R.out.2 i q else (by rw [show i = k by omega]; exact hA.out), rfl⟩
      · have gge97 : decide ((c : Int) ≥ 97) = false := decide_eq_false (by omega)
        have gne : ((c : Int) != 45) = true := by rw [bne_iff_ne]; omega
        have hA : Hid (pieceB s = false) := Lib.hid (pk_no hlt (by unfold pkAt; rw [C.out]; unfold L.plainN; rw [decide_eq_false (show ¬ c = 45 by omega)]; simp; omega))
        have X := Lib.hid hx
        clear hx
        go_wp2_with fail
        refine (refDigit_any c wr).mono ?_
        rintro e w' ⟨rfl, rfl⟩
        rw [show (decide (48 ≤ c) && decide (c ≤ 57)) = false from (by have := X.out; simp only [Bool.and_eq_false_iff, decide_eq_false_iff_not]; omega)]
        clear X
        go_wp2_with fail
        go_ret
        exact ⟨by rw [hA.out]; rfl, rfl⟩
      · have gge97 : decide ((c : Int) ≥ 97) = true := decide_eq_true (by omega)
        have gle : decide ((c : Int) ≤ 122) = true := decide_eq_true (by omega)
        have hA : Hid (pkAt s k = true) := Lib.hid (by unfold pkAt; rw [C.out]; unfold L.plainN; simp [hx])
        clear hx
        go_wp2_with fail
        go_roundg (s.size - (k + 1))
        case measure => have := R.out.1; omega
        case rel => exact ⟨k + 1, by omega, rfl, by go_num, fun i hi => if q : i < k then R.out.2 i q else (by rw [show i = k by omega]; exact hA.out), rfl⟩
      · have gge97 : decide ((c : Int) ≥ 97) = true := decide_eq_true (by omega)
        have gle : decide ((c : Int) ≤ 122) = false := decide_eq_false (by omega)
        have gne : ((c : Int) != 45) = true := by rw [bne_iff_ne]; omega
        have hA : Hid (pieceB s = false) := Lib.hid (pk_no hlt (by unfold pkAt; rw [C.out]; unfold L.plainN; rw [decide_eq_false (show ¬ c = 45 by omega)]; simp; omega))
        have X := Lib.hid hx
        clear hx
        go_wp2_with fail
        refine (refDigit_any c wr).mono ?_
        rintro e w' ⟨rfl, rfl⟩
        rw [show (decide (48 ≤ c) && decide (c ≤ 57)) = false from (by have := X.out; simp only [Bool.and_eq_false_iff, decide_eq_false_iff_not]; omega)]
        clear X
        go_wp2_with fail
        go_ret
        exact ⟨by rw [hA.out]; rfl, rfl⟩
    · have ek : k = s.size := by omega
      have E : Hid (pieceB s = !(s.toList == [])) := Lib.hid (by
        by_cases h0 : 0 < s.size
        · rw [pk_yes (t := s) h0 (fun i hi => R.out.2 i (by omega))]
          have : s.toList ≠ [] := by intro q; have z : s.size = 0 := (by rw [← str_size s, ← ByteArray.toList_eq, q]; rfl); omega
          simp [this]
        · have z : s.size = 0 := by omega
          have : s.toList = [] := List.eq_nil_of_length_eq_zero (by have e : s.toList.length = s.size := (by rw [ByteArray.toList_eq, str_size]); omega)
          unfold pieceB
          rw [decide_eq_false h0, this]; rfl)
      go_wp2_with fail
      go_ret
      exact ⟨by rw [E.out]; first | rfl | simp, rfl⟩
end Go.Proofs.YtanpneahembhbaaGreatDoor
end S0

section S1
namespace Go.Proofs.YtanpneahembhbaaGreatDoor
open Go.RowKit
theorem pieces_cut {c : UInt8} : ∀ (A B : List UInt8), c ∉ A → L.pieces c (A ++ c :: B) = A :: L.pieces c B := by
  intro A
  induction A with
  | nil => intro B _; simp [L.pieces]
  | cons b A ih =>
    intro B h
    have hb : ¬ b = c := fun e => h (by rw [e]; exact List.mem_cons_self ..)
    rw [List.cons_append]
    conv => lhs; rw [L.pieces]
    rw [if_neg hb, ih B (fun m => h (List.mem_cons_of_mem _ m))]
    rfl
theorem byte_at {s : ByteArray} {j : Nat} (hj : j < s.size) : s.data.toList[j]? = some (s.get! j) := by
  rw [L.get_lit s j hj]
  have : j < s.data.toList.length := by simpa using hj
  rw [List.getElem?_eq_getElem this]
  rfl
theorem rest_cut {s : ByteArray} {f i : Nat} (hf : f ≤ i) (hi : i < s.size) (hc : (s.get! i).toNat = 46) (hn : ∀ j, f ≤ j → j < i → (s.get! j).toNat ≠ 46) :
    L.pieces 46 (s.data.toList.drop f) = (s.data.toList.drop f).take (i - f) :: L.pieces 46 (s.data.toList.drop (i + 1)) := by
  have hl : i < s.data.toList.length := by simpa using hi
  have e46 : s.get! i = 46 := UInt8.toNat_inj.1 (by rw [hc]; rfl)
  have hd : s.data.toList.drop f = (s.data.toList.drop f).take (i - f) ++ 46 :: s.data.toList.drop (i + 1) := by
    have h1 := (List.take_append_drop (i - f) (s.data.toList.drop f)).symm
    rw [List.drop_drop, show f + (i - f) = i by omega, List.drop_eq_getElem_cons hl] at h1
    have h2 := byte_at hi
    rw [List.getElem?_eq_getElem hl, e46] at h2
    rw [Option.some.inj h2] at h1
    exact h1
  have nm : (46 : UInt8) ∉ (s.data.toList.drop f).take (i - f) := by
    intro m
    obtain ⟨k, hk, e⟩ := List.getElem_of_mem m
    have hk2 : k < i - f := by rw [List.length_take] at hk; omega
    rw [List.getElem_take, List.getElem_drop] at e
    have hj : f + k < s.size := by omega
    have h2 := byte_at hj
    rw [List.getElem?_eq_getElem (by simpa using hj), e] at h2
    exact hn (f + k) (by omega) (by omega) (by rw [← Option.some.inj h2]; rfl)
  conv => lhs; rw [hd]
  exact pieces_cut _ _ nm
theorem rest_none {s : ByteArray} {f : Nat} (hn : ∀ j, f ≤ j → j < s.size → (s.get! j).toNat ≠ 46) : L.pieces 46 (s.data.toList.drop f) = [s.data.toList.drop f] := by
  refine L.pieces_free 46 _ (fun m => ?_)
  obtain ⟨k, hk, e⟩ := List.getElem_of_mem m
  rw [List.getElem_drop] at e
  have hj : f + k < s.size := by rw [List.length_drop] at hk; have : s.data.toList.length = s.size := by simp
                                 omega
  have h2 := byte_at hj
  rw [List.getElem?_eq_getElem (by simpa using hj), e] at h2
  exact hn (f + k) (by omega) hj (by rw [← Option.some.inj h2]; rfl)
set_option maxHeartbeats 4000000 in
set_option maxRecDepth 100000 in
theorem refRes_any (s : ByteArray) (w : World) (hs : s.size ≤ 140737488355328) : Calls Tryz.prog 97 #[.string s] w fun e w' => e = .returned (.bool (resB s)) ∧ w' = w := by
  have HS := Lib.hid hs
  go_enter Tryz.func97, Tryz.ntmps97
  go_wp2_with fail
  go_loopg [3, 4] s.size (fun g sf si wr => ∃ (k f : Nat) (done : List ByteArray), k ≤ s.size ∧ f ≤ k ∧ g = s.size - k ∧ si = .int .i64 k ∧ sf = .int .i64 f ∧ dots s = done ++ (L.pieces 46 (s.data.toList.drop f)).map L.bytesOf ∧ done.all pieceB = true ∧ (∀ j, f ≤ j → j < k → (s.get! j).toNat ≠ 46) ∧ wr = w)
  case atStart => exact ⟨0, 0, [], Nat.zero_le _, Nat.le_refl _, rfl, rfl, rfl, by rw [List.drop_zero, List.nil_append]; rfl, rfl, fun j _ h => by omega, rfl⟩
  case round =>
    obtain ⟨k, f, done, hk, hfk, hg, rfl, rfl, hd, ha, hn, rfl⟩ := hrel
    have R : Aside (gk = s.size - k ∧ dots s = done ++ (L.pieces 46 (s.data.toList.drop f)).map L.bytesOf ∧ done.all pieceB = true ∧ (∀ j, f ≤ j → j < k → (s.get! j).toNat ≠ 46)) := ⟨hg, hd, ha, hn⟩
    clear hg hd ha hn
    by_cases hlt : k < s.size
    · have hlt' : (k : Int) < (s.size : Int) := by omega
      obtain ⟨c, hc⟩ : ∃ c, c = (s[k]'hlt).toNat := ⟨_, rfl⟩
      have C : Hid ((s.get! k).toNat = c) := Lib.hid (by rw [L.get_lit s k hlt]; exact hc.symm)
      have fc : ((s[k]'hlt).toNat : Int) = (c : Int) := by rw [hc]
      clear hc
      by_cases hx : c = 46
      · have gq : ((c : Int) == 46) = true := by rw [beq_iff_eq]; omega
        have b1 : (0 : Int) ≤ (f : Int) := by omega
        have b2 : (f : Int) ≤ (k : Int) := by omega
        have b3 : (k : Int) ≤ (s.size : Int) := by omega
        have EX : Hid (dots s = done ++ s.extract f k :: (L.pieces 46 (s.data.toList.drop (k + 1))).map L.bytesOf) := Lib.hid (by
          rw [R.out.2.1, rest_cut hfk hlt (C.out.trans hx) R.out.2.2.2, List.map_cons, bytes_extract])
        have PC := Lib.hid (refPiece_any (s.extract f k) wr (by have := HS.out; simp; omega))
        go_wp2_with fail
        refine PC.out.mono ?_
        rintro e w' ⟨rfl, rfl⟩
        by_cases hp : pieceB (s.extract f k) = true
        · rw [hp]
          have R2 : Aside (dots s = (done ++ [s.extract f k]) ++ (L.pieces 46 (s.data.toList.drop (k + 1))).map L.bytesOf ∧ (done ++ [s.extract f k]).all pieceB = true) := ⟨by rw [EX.out]; simp, by rw [List.all_append, R.out.2.2.1]; simp [hp]⟩
          clear hp PC EX
          go_wp2_with fail
          go_roundg (s.size - (k + 1))
          case measure => have := R.out.1; omega
          case rel => exact ⟨k + 1, k + 1, _, by omega, Nat.le_refl _, rfl, by go_num, by go_num, R2.out.1, R2.out.2, fun j h1 h2 => by omega, rfl⟩
        · have hp' : pieceB (s.extract f k) = false := by simpa using hp
          rw [hp']
          have hA : Hid (resB s = false) := Lib.hid (by unfold resB; rw [EX.out, List.all_append, List.all_cons, hp']; simp)
          clear hp hp' PC EX
          go_wp2_with fail
          go_ret
          exact ⟨by rw [hA.out]; rfl, rfl⟩
      · have gq : ((c : Int) == 46) = false := by rw [beq_eq_false_iff_ne]; omega
        have HX := Lib.hid hx
        clear hx
        go_wp2_with fail
        go_roundg (s.size - (k + 1))
        case measure => have := R.out.1; omega
        case rel => exact ⟨k + 1, f, done, by omega, by omega, rfl, by go_num, rfl, R.out.2.1, R.out.2.2.1, fun j h1 h2 => (by
          rcases Nat.lt_or_ge j k with q | q
          · exact R.out.2.2.2 j h1 q
          · rw [show j = k by omega, C.out]; exact HX.out), rfl⟩
    · obtain rfl : k = s.size := by omega
      have E : Hid (resB s = (decide (s.size ≤ 48) && pieceB (s.extract f s.size))) := Lib.hid (by
        unfold resB
        rw [R.out.2.1, rest_none R.out.2.2.2, List.all_append, R.out.2.2.1, bytes_extract]
        have : (s.data.toList.drop f).take (s.size - f) = s.data.toList.drop f := List.take_of_length_le (by rw [List.length_drop]; simp)
        rw [this]; simp)
      by_cases h48 : s.size ≤ 48
      · have g48 : decide ((s.size : Int) ≤ 48) = true := decide_eq_true (by omega)
        have b2 : (f : Int) ≤ (s.size : Int) := by omega
        have b1 : (0 : Int) ≤ (f : Int) := by omega
        have PC := Lib.hid (refPiece_any (s.extract f s.size) wr (by have := HS.out; simp; omega))
        rw [decide_eq_true h48, Bool.true_and] at E
        clear h48
        go_wp2_with fail
        refine PC.out.mono ?_
        rintro e w' ⟨rfl, rfl⟩
        go_wp2_with fail
        go_ret
        exact ⟨by rw [E.out]; rfl, rfl⟩
      · have g48 : decide ((s.size : Int) ≤ 48) = false := decide_eq_false (by omega)
        rw [decide_eq_false h48, Bool.false_and] at E
        clear h48
        go_wp2_with fail
        go_ret
        exact ⟨by rw [E.out]; rfl, rfl⟩
end Go.Proofs.YtanpneahembhbaaGreatDoor
end S1

section S2
namespace Go.Proofs.YtanpneahembhbaaGreatDoor
open Go.RowKit
set_option maxHeartbeats 1000000 in
theorem refNamed_any (p n : ByteArray) (w : World) (hp : p.size ≤ 1048576) : Calls Tryz.prog 90 #[.string p, .string n] w fun e w' => e = .returned (.bool (namedB p n)) ∧ Below w.heap.size w w' := by
  have PA := Lib.hid (L.refPath_any p w hp)
  have NA := Lib.hid (L.refName_any n)
  clear hp
  go_enter Tryz.func90, Tryz.ntmps90
  go_wp2_with fail
  refine PA.out.mono ?_
  rintro e w1 ⟨rfl, hb⟩
  have B1 := Lib.hid hb
  clear hb PA
  by_cases h : L.splitE p = 0
  · have E : Aside (namedB p n = L.nameB n) := by show _ = _; unfold namedB; rw [decide_eq_true h]; rfl
    have g : (L.splitE p == 0) = true := by rw [beq_iff_eq]; exact h
    clear h
    go_wp2_with fail
    refine (NA.out w1).mono ?_
    rintro e w2 ⟨rfl, rfl⟩
    go_wp2_with fail
    go_ret
    exact ⟨by rw [E.out]; rfl, B1.out⟩
  · have E : Aside (namedB p n = false) := by show _ = _; unfold namedB; rw [decide_eq_false h]; rfl
    have g : (L.splitE p == 0) = false := by rw [beq_eq_false_iff_ne]; exact h
    clear h
    go_wp2_with fail
    go_ret
    exact ⟨by rw [E.out]; rfl, B1.out⟩
set_option maxHeartbeats 4000000 in
set_option maxRecDepth 100000 in
theorem refFormedB_any (b : Bd) (w : World) (hp : b.p.size ≤ 1048576) : Calls Tryz.prog 71 #[b.val] w fun e w' => e = .returned (.bool (bdS b)) ∧ Below w.heap.size w w' := by
  obtain ⟨p, n, s, v⟩ := b
  obtain ⟨S, hS⟩ : ∃ S, S = bdS ⟨p, n, s, v⟩ := ⟨_, rfl⟩
  have ES : Aside (S = (namedB p n && (L.nameB s && inB v 0 3))) := hS
  rw [← hS]
  clear hS
  unfold Bd.val
  simp only at hp ⊢
  obtain ⟨X, hX⟩ : ∃ X, X = w.alloc (.cells #[.string p, .string n, .string s, .int .i64 v] 31) := ⟨_, rfl⟩
  have AX : Hid (Below w.heap.size w X) := Lib.hid (by rw [hX]; exact (Below.refl _ w).alloc (Nat.le_refl _) _)
  have CX : Hid (∀ i y, #[Value.string p, .string n, .string s, .int .i64 v][i]? = some y → X.cell? ⟨w.heap.size, i, none⟩ = some y) := Lib.hid fun i y h => by
    rw [hX, World.cell?_alloc_new]; exact h
  have d0 := CX.out 0 _ rfl
  have d1 := CX.out 1 _ rfl
  have NA := Lib.hid (refNamed_any p n X hp)
  have hX' := hX.symm
  clear hX hp
  go_enter Tryz.func71, Tryz.ntmps71
  go_wp2_with fail
  refine NA.out.mono ?_
  rintro e w1 ⟨rfl, hb⟩
  have B1 := Lib.hid hb
  clear hb NA hX' d0 d1
  have BF : Hid (Below w.heap.size w w1) := Lib.hid (AX.out.trans (B1.out.mono AX.out.size))
  cases h1 : namedB p n with
  | false =>
    have F : Aside (S = false) := by show _ = _; rw [ES.out, h1]; rfl
    go_wp2_with fail
    go_ret
    exact ⟨by rw [F.out]; rfl, BF.out⟩
  | true =>
  have d2 := (B1.out.cell (block_lt_of_cell (CX.out 2 _ rfl))).trans (CX.out 2 _ rfl)
  have d3 := (B1.out.cell (block_lt_of_cell (CX.out 3 _ rfl))).trans (CX.out 3 _ rfl)
  have NB := Lib.hid (L.refName_any s w1)
  go_wp2_with fail
  refine NB.out.mono ?_
  rintro e w2 ⟨rfl, rfl⟩
  clear NB
  cases h2 : L.nameB s with
  | false =>
    have F : Aside (S = false) := by show _ = _; rw [ES.out, h1, h2]; rfl
    go_wp2_with fail
    go_ret
    exact ⟨by rw [F.out]; rfl, BF.out⟩
  | true =>
  by_cases h3 : 0 ≤ v
  · have g : decide (v ≥ 0) = true := decide_eq_true h3
    have F : Aside (S = decide (v ≤ 3)) := by show _ = _; rw [ES.out, h1, h2]; unfold inB; rw [decide_eq_true h3]; rfl
    clear h3
    go_wp2_with fail
    go_ret
    exact ⟨by rw [F.out]; rfl, BF.out⟩
  · have g : decide (v ≥ 0) = false := decide_eq_false h3
    have F : Aside (S = false) := by show _ = _; rw [ES.out, h1, h2]; unfold inB; rw [decide_eq_false h3]; rfl
    clear h3
    go_wp2_with fail
    go_ret
    exact ⟨by rw [F.out]; rfl, BF.out⟩
def jdR (ok : Bool) : Nat := if ok = true then 0 else 130
theorem refJudged_any (ok : Bool) (w : World) : Calls Tryz.prog 58 #[.bool ok, .string ⟨#[]⟩] w fun e w' => e = .returned (.int .i64 (jdR ok)) ∧ w' = w := by
  cases ok with
  | false =>
    go_enter Tryz.func58, Tryz.ntmps58
    go_wp2_with fail
    go_ret
    exact ⟨rfl, rfl⟩
  | true =>
    go_enter Tryz.func58, Tryz.ntmps58
    go_wp2_with fail
    go_ret
    exact ⟨rfl, rfl⟩
end Go.Proofs.YtanpneahembhbaaGreatDoor
end S2

section S3
namespace Go.Proofs.YtanpneahembhbaaGreatDoor
open Go.RowKit
theorem ress_one (x : ByteArray) : ressB [x] = resB x := by
  unfold ressB amsB amB zAm
  simp
theorem res_nil {t : ByteArray} (h : t.size = 0) : resB t = false := by
  have e : t = ⟨#[]⟩ := L.data_inj (List.eq_nil_of_length_eq_zero (by rw [str_size]; exact h))
  rw [e]; decide +kernel
theorem pref_take (l p : List UInt8) : Lib.hasPrefix l p = (l.take p.length == p) := by
  unfold Lib.hasPrefix
  rw [Bool.eq_iff_iff, List.isPrefixOf_iff_prefix, List.prefix_iff_eq_take, beq_iff_eq]
  exact eq_comm
theorem ext_list (s : ByteArray) (k : Nat) : (s.extract 0 k).toList = s.data.toList.take k := by
  rw [ByteArray.toList_eq, bytes_extract, List.drop_zero, Nat.sub_zero]
  simp [L.bytesOf]
theorem cut_ext {s : ByteArray} {p : List UInt8} (h : Lib.hasPrefix s.data.toList p = true) : cutP s p = s.extract p.length s.size := by
  unfold cutP Lib.trimPrefix
  rw [if_pos h, bytes_extract]
  rw [List.take_of_length_le (by rw [List.length_drop]; simp)]
  rfl
theorem hard_eq {s : ByteArray} (h0 : (s.toList == [99, 111, 117, 110, 116]) = false) : hardB s = if Lib.hasPrefix s.data.toList pRq = true then resB (s.extract 9 s.size) else Lib.hasPrefix s.data.toList pLi && resB (s.extract 7 s.size) := by
  unfold hardB
  rw [h0, Bool.false_or]
  by_cases h : Lib.hasPrefix s.data.toList pRq = true
  · rw [if_pos h, if_pos h, ress_one, cut_ext h]; rfl
  · rw [if_neg h, if_neg h]
    cases h2 : Lib.hasPrefix s.data.toList pLi with
    | false => rfl
    | true => rw [ress_one, cut_ext h2]; rfl
theorem pref_len {s : ByteArray} {p : List UInt8} (h : Lib.hasPrefix s.data.toList p = true) : p.length ≤ s.size := by
  have := (List.isPrefixOf_iff_prefix.1 h).length_le
  rw [str_size] at this; exact this
set_option maxHeartbeats 4000000 in
set_option maxRecDepth 100000 in
theorem refHard_any (s : ByteArray) (w : World) (hs : s.size ≤ 140737488355328) : Calls Tryz.prog 91 #[.string s] w fun e w' => e = .returned (.bool (hardB s)) ∧ w' = w := by
  cases h0 : (s.toList == [99, 111, 117, 110, 116]) with
  | true =>
    have E : Aside (hardB s = true) := by show _ = _; unfold hardB; rw [h0]; rfl
    go_enter Tryz.func91, Tryz.ntmps91
    go_wp2_with fail
    go_ret
    exact ⟨by rw [E.out]; rfl, rfl⟩
  | false =>
  have HE := Lib.hid (hard_eq h0)
  have R9 := Lib.hid (refRes_any (s.extract 9 s.size) w (by simp; omega))
  have R7 := Lib.hid (refRes_any (s.extract 7 s.size) w (by simp; omega))
  cases hp : Lib.hasPrefix s.data.toList pRq with
  | true =>
    have hl : 9 ≤ s.size := pref_len hp
    have gp : ((s.extract 0 9).toList == [114, 101, 113, 117, 101, 115, 116, 115, 46]) = true := by rw [ext_list]; rw [pref_take] at hp; exact hp
    rw [hp, if_pos rfl] at HE
    by_cases l9 : 9 < s.size
    · have g9 : decide ((s.size : Int) > 9) = true := decide_eq_true (by omega)
      have b9 : (9 : Int) ≤ (s.size : Int) := by omega
      clear hp
      go_enter Tryz.func91, Tryz.ntmps91
      go_wp2_with fail
      refine R9.out.mono ?_
      rintro e w1 ⟨rfl, rfl⟩
      go_wp2_with fail
      go_ret
      exact ⟨by rw [HE.out]; rfl, rfl⟩
    · have g9 : decide ((s.size : Int) > 9) = false := decide_eq_false (by omega)
      have g7 : decide ((s.size : Int) > 7) = true := decide_eq_true (by omega)
      have b7 : (7 : Int) ≤ (s.size : Int) := by omega
      have gq : ((s.extract 0 7).toList == [108, 105, 109, 105, 116, 115, 46]) = false := by
        rw [ext_list]
        have q := gp
        rw [ext_list, beq_iff_eq] at q
        have : s.data.toList.take 7 = [114, 101, 113, 117, 101, 115, 116] := by
          have z : s.data.toList.take 7 = (s.data.toList.take 9).take 7 := by rw [List.take_take]; rfl
          rw [z, q]; rfl
        rw [this]; rfl
      have E : Aside (hardB s = false) := by show _ = _; rw [HE.out]; exact res_nil (by simp; omega)
      clear hp gp
      go_enter Tryz.func91, Tryz.ntmps91
      go_wp2_with fail
      go_ret
      exact ⟨by rw [E.out]; rfl, rfl⟩
  | false =>
    have gp : ((s.extract 0 9).toList == [114, 101, 113, 117, 101, 115, 116, 115, 46]) = false := by rw [ext_list]; rw [pref_take] at hp; exact hp
    rw [hp, if_neg Bool.false_ne_true] at HE
    clear hp
    by_cases l7 : 7 < s.size
    · have g7 : decide ((s.size : Int) > 7) = true := decide_eq_true (by omega)
      have b7 : (7 : Int) ≤ (s.size : Int) := by omega
      cases hq : Lib.hasPrefix s.data.toList pLi with
      | true =>
        have gq : ((s.extract 0 7).toList == [108, 105, 109, 105, 116, 115, 46]) = true := by rw [ext_list]; rw [pref_take] at hq; exact hq
        rw [hq, Bool.true_and] at HE
        clear hq
        by_cases l9 : 9 < s.size
        · have g9 : decide ((s.size : Int) > 9) = true := decide_eq_true (by omega)
          have b9 : (9 : Int) ≤ (s.size : Int) := by omega
          go_enter Tryz.func91, Tryz.ntmps91
          go_wp2_with fail
          refine R7.out.mono ?_
          rintro e w1 ⟨rfl, rfl⟩
          go_wp2_with fail
          go_ret
          exact ⟨by rw [HE.out]; rfl, rfl⟩
        · have g9 : decide ((s.size : Int) > 9) = false := decide_eq_false (by omega)
          go_enter Tryz.func91, Tryz.ntmps91
          go_wp2_with fail
          refine R7.out.mono ?_
          rintro e w1 ⟨rfl, rfl⟩
          go_wp2_with fail
          go_ret
          exact ⟨by rw [HE.out]; rfl, rfl⟩
      | false =>
        have gq : ((s.extract 0 7).toList == [108, 105, 109, 105, 116, 115, 46]) = false := by rw [ext_list]; rw [pref_take] at hq; exact hq
        rw [hq, Bool.false_and] at HE
        clear hq
        by_cases l9 : 9 < s.size
        · have g9 : decide ((s.size : Int) > 9) = true := decide_eq_true (by omega)
          have b9 : (9 : Int) ≤ (s.size : Int) := by omega
          go_enter Tryz.func91, Tryz.ntmps91
          go_wp2_with fail
          go_ret
          exact ⟨by rw [HE.out]; rfl, rfl⟩
        · have g9 : decide ((s.size : Int) > 9) = false := decide_eq_false (by omega)
          go_enter Tryz.func91, Tryz.ntmps91
          go_wp2_with fail
          go_ret
          exact ⟨by rw [HE.out]; rfl, rfl⟩
    · have g7 : decide ((s.size : Int) > 7) = false := decide_eq_false (by omega)
      have g9 : decide ((s.size : Int) > 9) = false := decide_eq_false (by omega)
      have E : Aside (hardB s = false) := by
        show _ = _
        rw [HE.out]
        cases hq : Lib.hasPrefix s.data.toList pLi with
        | false => rfl
        | true => rw [Bool.true_and]; exact res_nil (by simp; omega)
      clear gp
      go_enter Tryz.func91, Tryz.ntmps91
      go_wp2_with fail
      go_ret
      exact ⟨by rw [E.out]; rfl, rfl⟩
end Go.Proofs.YtanpneahembhbaaGreatDoor
end S3

section S4
namespace Go.Proofs.YtanpneahembhbaaGreatDoor
open Go.RowKit Go.Sort
def bkOf (h : List Am) (k : Nat) : ByteArray := if k = 0 then ⟨#[]⟩ else (h.getD (k - 1) kAm.z).n
theorem bkOf_succ (h : List Am) (k : Nat) (_ : k < h.length) : bkOf h (k + 1) = (h.getD k kAm.z).n := by unfold bkOf; rw [if_neg (by omega)]; rfl
theorem drop_one {α : Type} (l : List α) (k : Nat) (d : α) (h : k < l.length) : l.drop k = l.getD k d :: l.drop (k + 1) := by
  rw [List.drop_eq_getElem_cons h, List.getD_eq_getElem?_getD, List.getElem?_eq_getElem h]; rfl
theorem hdsUp_cons (b : ByteArray) (x : Am) (r : List Am) : hdsUp b (x :: r) = (hdB b x && hdsUp x.n r) := rfl
theorem hard_ne {x : ByteArray} (h : hardB x = true) : L.ltS ⟨#[]⟩ x = true := by
  have hx : x.data.toList ≠ [] := by
    intro e
    have : x = ⟨#[]⟩ := L.data_inj e
    rw [this] at h
    exact absurd h (by decide +kernel)
  obtain ⟨c, r, hc⟩ := List.exists_cons_of_ne_nil hx
  show Op.bytesLess (⟨#[]⟩ : ByteArray).toList x.toList = true
  rw [ByteArray.toList_eq, ByteArray.toList_eq, hc]
  rfl
structure FQ (w : World) (c : Array Value) (W : World) : Prop where
  o : W.heap[w.heap.size]? = some (.cells c 26 (0, 0))
  be : Below w.heap.size w W
theorem FQ.below {w W W' : World} {c : Array Value} (h : FQ w c W) (hb : Below W.heap.size W W') : FQ w c W' := ⟨by rw [hb.block _ (lt_of_some h.o)]; exact h.o, h.be.trans (hb.mono h.be.size)⟩
set_option maxHeartbeats 32000000 in
set_option maxRecDepth 100000 in
theorem refFormedQ_any (q : Qt) (u : Value) (w : World) (hu : Row kAm w u q.h) (hf : q.Fit) (hp : q.p.size ≤ 1048576) : Calls Tryz.prog 57 #[q.val u] w fun e w' => e = .returned (.bool (qtS q)) ∧ Below w.heap.size w w' := by
  obtain ⟨p, m, sk, sa, h⟩ := q
  simp only at hu hp
  have U := Lib.hid hu
  have FT := Lib.hid hf.h
  obtain ⟨u1, u3, rfl, hlc, hcm⟩ := hu.len
  unfold maxLen at hcm
  unfold Qt.val
  simp only
  obtain ⟨S, hS⟩ : ∃ S, S = qtS ⟨p, m, sk, sa, h⟩ := ⟨_, rfl⟩
  have ES : Hid (S = (namedB p m && (scB sk sa && hdsB h))) := Lib.hid hS
  rw [← hS]
  clear hS
  obtain ⟨n, hn⟩ : ∃ n, n = h.length := ⟨_, rfl⟩
  rw [← hn] at hlc U ⊢
  have HN0 := Lib.hid hn
  clear hu hn hf
  obtain ⟨X, hX⟩ : ∃ X, X = w.alloc (.cells #[.string p, .string m, .int .i64 sk, .int .i64 sa, .slice u1 n u3] 26) := ⟨_, rfl⟩
  have KX : Hid (FQ w #[.string p, .string m, .int .i64 sk, .int .i64 sa, .slice u1 n u3] X) := Lib.hid ⟨by rw [hX, heap_alloc_new], by rw [hX]; exact (Below.refl _ w).alloc (Nat.le_refl _) _⟩
  have sX : X.heap.size = w.heap.size + 1 := by rw [hX]; simp
  have c2 : X.cell? ⟨w.heap.size, 2, none⟩ = some (.int .i64 sk) := by rw [cell_of_row X _ 2 _ _ _ KX.out.o]; rfl
  have c3 : X.cell? ⟨w.heap.size, 3, none⟩ = some (.int .i64 sa) := by rw [cell_of_row X _ 3 _ _ _ KX.out.o]; rfl
  obtain ⟨Y, hY⟩ : ∃ Y, Y = X.alloc (.cells #[.int .i64 sk, .int .i64 sa] 23) := ⟨_, rfl⟩
  have AY : Below X.heap.size X Y := by rw [hY]; exact (Below.refl _ X).alloc (Nat.le_refl _) _
  have K0 := Lib.hid (KX.out.below AY)
  have s0 : Y.cell? ⟨w.heap.size + 1, 0, none⟩ = some (.int .i64 sk) := by rw [hY, ← sX, World.cell?_alloc_new]; rfl
  have s1 : Y.cell? ⟨w.heap.size + 1, 1, none⟩ = some (.int .i64 sa) := by rw [hY, ← sX, World.cell?_alloc_new]; rfl
  have d0 : Y.cell? ⟨w.heap.size, 0, none⟩ = some (.string p) := by rw [cell_of_row Y _ 0 _ _ _ K0.out.o]; rfl
  have d1 : Y.cell? ⟨w.heap.size, 1, none⟩ = some (.string m) := by rw [cell_of_row Y _ 1 _ _ _ K0.out.o]; rfl
  have NA := Lib.hid (refNamed_any p m Y hp)
  have hX' := hX.symm
  have hY' := hY.symm
  clear hX hY hp AY KX
  by_cases c1 : sk < 0
  · have gk0 : decide (sk ≥ 0) = false := decide_eq_false (by omega)
    have g5 : (sk == 5) = false := by rw [beq_eq_false_iff_ne]; omega
    have SC : Hid (scB sk sa = false) := Lib.hid (by unfold scB inB; rw [if_neg (by omega), decide_eq_false (show ¬ 0 ≤ sk by omega)]; rfl)
    clear c1
    have NO : Hid (S = false) := Lib.hid (by rw [ES.out, SC.out]; simp)
    go_enter Tryz.func57, Tryz.ntmps57
    go_wp2_with fail
    refine NA.out.mono ?_
    rintro e w1 ⟨rfl, hb⟩
    have K1 := Lib.hid (K0.out.below hb)
    have BF := Lib.hid K1.out.be
    clear hb NA hX' hY' d0 d1 c2 c3 s0 s1 K0
    cases h1 : namedB p m with
    | false =>
      clear h1
      go_wp2_with fail
      go_ret
      exact ⟨by rw [NO.out]; rfl, BF.out⟩
    | true =>
      clear h1
      go_wp2_with fail
      go_ret
      exact ⟨by rw [NO.out]; rfl, BF.out⟩
  by_cases c2 : 5 < sk
  · have gk0 : decide (sk ≥ 0) = true := decide_eq_true (by omega)
    have gk4 : decide (sk ≤ 4) = false := decide_eq_false (by omega)
    have g5 : (sk == 5) = false := by rw [beq_eq_false_iff_ne]; omega
    have SC : Hid (scB sk sa = false) := Lib.hid (by unfold scB inB; rw [if_neg (by omega), decide_eq_false (show ¬ sk ≤ 4 by omega)]; simp)
    clear c1 c2
    have NO : Hid (S = false) := Lib.hid (by rw [ES.out, SC.out]; simp)
    go_enter Tryz.func57, Tryz.ntmps57
    go_wp2_with fail
    refine NA.out.mono ?_
    rintro e w1 ⟨rfl, hb⟩
    have K1 := Lib.hid (K0.out.below hb)
    have BF := Lib.hid K1.out.be
    clear hb NA hX' hY' d0 d1 c2 c3 s0 s1 K0
    cases h1 : namedB p m with
    | false =>
      clear h1
      go_wp2_with fail
      go_ret
      exact ⟨by rw [NO.out]; rfl, BF.out⟩
    | true =>
      clear h1
      go_wp2_with fail
      go_ret
      exact ⟨by rw [NO.out]; rfl, BF.out⟩
  by_cases c3 : sk = 5
  · have gk0 : decide (sk ≥ 0) = true := decide_eq_true (by omega)
    have gk4 : decide (sk ≤ 4) = false := decide_eq_false (by omega)
    have g5 : (sk == 5) = true := by rw [beq_iff_eq]; omega
    by_cases a1 : sa < 0
    · have ga0 : decide (sa ≥ 0) = false := decide_eq_false (by omega)
      have SC : Hid (scB sk sa = false) := Lib.hid (by unfold scB inB; rw [if_pos c3, decide_eq_false (show ¬ 0 ≤ sa by omega)]; rfl)
      clear c1 c2 c3 a1
      have NO : Hid (S = false) := Lib.hid (by rw [ES.out, SC.out]; simp)
      go_enter Tryz.func57, Tryz.ntmps57
      go_wp2_with fail
      refine NA.out.mono ?_
      rintro e w1 ⟨rfl, hb⟩
      have K1 := Lib.hid (K0.out.below hb)
      have BF := Lib.hid K1.out.be
      clear hb NA hX' hY' d0 d1 c2 c3 s0 s1 K0
      cases h1 : namedB p m with
      | false =>
        clear h1
        go_wp2_with fail
        go_ret
        exact ⟨by rw [NO.out]; rfl, BF.out⟩
      | true =>
        clear h1
        go_wp2_with fail
        go_ret
        exact ⟨by rw [NO.out]; rfl, BF.out⟩
    by_cases a2 : 9 < sa
    · have ga0 : decide (sa ≥ 0) = true := decide_eq_true (by omega)
      have ga9 : decide (sa ≤ 9) = false := decide_eq_false (by omega)
      have SC : Hid (scB sk sa = false) := Lib.hid (by unfold scB inB; rw [if_pos c3, decide_eq_false (show ¬ sa ≤ 9 by omega)]; simp)
      clear c1 c2 c3 a1 a2
      have NO : Hid (S = false) := Lib.hid (by rw [ES.out, SC.out]; simp)
      go_enter Tryz.func57, Tryz.ntmps57
      go_wp2_with fail
      refine NA.out.mono ?_
      rintro e w1 ⟨rfl, hb⟩
      have K1 := Lib.hid (K0.out.below hb)
      have BF := Lib.hid K1.out.be
      clear hb NA hX' hY' d0 d1 c2 c3 s0 s1 K0
      cases h1 : namedB p m with
      | false =>
        clear h1
        go_wp2_with fail
        go_ret
        exact ⟨by rw [NO.out]; rfl, BF.out⟩
      | true =>
        clear h1
        go_wp2_with fail
        go_ret
        exact ⟨by rw [NO.out]; rfl, BF.out⟩
    have ga0 : decide (sa ≥ 0) = true := decide_eq_true (by omega)
    have ga9 : decide (sa ≤ 9) = true := decide_eq_true (by omega)
    have SC : Hid (scB sk sa = true) := Lib.hid (by unfold scB inB; rw [if_pos c3, decide_eq_true (show 0 ≤ sa by omega), decide_eq_true (show sa ≤ 9 by omega)]; rfl)
    clear c1 c2 c3 a1 a2
    go_enter Tryz.func57, Tryz.ntmps57
    go_wp2_with fail
    refine NA.out.mono ?_
    rintro e w1 ⟨rfl, hb⟩
    have K1 := Lib.hid (K0.out.below hb)
    have BF := Lib.hid K1.out.be
    clear hb NA hX' hY' d0 d1 c2 c3 s0 s1 K0
    cases h1 : namedB p m with
    | false =>
      have NO : Hid (S = false) := Lib.hid (by rw [ES.out, h1]; rfl)
      clear h1
      go_wp2_with fail
      go_ret
      exact ⟨by rw [NO.out]; rfl, BF.out⟩
    | true =>
    have d4 : w1.cell? ⟨w.heap.size, 4, none⟩ = some (.slice u1 n u3) := by rw [cell_of_row w1 _ 4 _ _ _ K1.out.o]; rfl
    by_cases l1 : n < 1
    · have NO : Hid (S = false) := Lib.hid (by rw [ES.out]; unfold hdsB; rw [decide_eq_false (show ¬ 1 ≤ h.length by rw [← HN0.out]; omega)]; simp)
      have g1 : decide ((n : Int) < 1) = true := decide_eq_true (by omega)
      clear h1 l1
      go_wp2_with fail
      go_ret
      exact ⟨by rw [NO.out]; rfl, BF.out⟩
    by_cases l2 : 16 < n
    · have NO : Hid (S = false) := Lib.hid (by rw [ES.out]; unfold hdsB; rw [decide_eq_false (show ¬ h.length ≤ 16 by rw [← HN0.out]; omega)]; simp)
      have g1 : decide ((n : Int) < 1) = false := decide_eq_false (by omega)
      have g2 : decide ((n : Int) > 16) = true := decide_eq_true (by omega)
      clear h1 l1 l2
      go_wp2_with fail
      go_ret
      exact ⟨by rw [NO.out]; rfl, BF.out⟩
    have SU : Aside (S = hdsUp (bkOf h 0) (h.drop 0)) := by
      show _ = _
      rw [ES.out, h1, SC.out]; unfold hdsB
      rw [decide_eq_true (show 1 ≤ h.length by rw [← HN0.out]; omega), decide_eq_true (show h.length ≤ 16 by rw [← HN0.out]; omega)]; rfl
    have gn1 : decide ((n : Int) < 1) = false := decide_eq_false (by omega)
    have gn2 : decide ((n : Int) > 16) = false := decide_eq_false (by omega)
    clear h1
    go_wp2_with fail
    clear gn1 gn2 d4 BF
    go_loopg [6] n (fun gg si wr => ∃ (k : Nat), k ≤ n ∧ gg = n - k ∧ si = .int .i64 k ∧ S = hdsUp (bkOf h k) (h.drop k) ∧ FQ w #[.string p, .string m, .int .i64 sk, .int .i64 sa, .slice u1 n u3] wr)
    case atStart => exact ⟨0, Nat.zero_le _, rfl, rfl, SU.out, K1.out⟩
    case round =>
      clear K1 SU
      obtain ⟨k, hk, hg, rfl, hS, hfl⟩ := hrel
      have R : Aside (gk = n - k ∧ S = hdsUp (bkOf h k) (h.drop k) ∧ FQ w #[.string p, .string m, .int .i64 sk, .int .i64 sa, .slice u1 n u3] wr) := ⟨hg, hS, hfl⟩
      have k4 : wr.cell? ⟨w.heap.size, 4, none⟩ = some (.slice u1 n u3) := by rw [cell_of_row wr _ 4 _ _ _ hfl.o]; rfl
      clear hg hS hfl
      by_cases hlt : k < n
      · have hlt' : (k : Int) < (n : Int) := by omega
        have hlt2 : k < h.length := by rw [← HN0.out]; exact hlt
        obtain ⟨b, off, rfl, pc⟩ := (U.out.below R.out.2.2.be).at k hlt2
        have XF := Lib.hid (FT.out _ (getD_in (d := kAm.z) hlt2))
        have HX := Lib.hid (drop_one h k kAm.z hlt2)
        have HB := Lib.hid (bkOf_succ h k hlt2)
        have PV : Hid (0 < k → ∃ pr, wr.cell? ⟨b, off + (k - 1) * 2, none⟩ = some (.string pr) ∧ bkOf h k = pr) := Lib.hid fun h0 => by
          obtain ⟨b', off', ea, pc'⟩ := (U.out.below R.out.2.2.be).at (k - 1) (by omega)
          simp only [Option.some.injEq, Addr.mk.injEq, and_true] at ea
          obtain ⟨rfl, rfl⟩ := ea
          exact ⟨_, pc' 0 _ rfl, by unfold bkOf; rw [if_neg (by omega)]⟩
        obtain ⟨x, hx⟩ : ∃ x, x = h.getD k kAm.z := ⟨_, rfl⟩
        rw [← hx] at pc XF HX HB
        clear hx
        obtain ⟨xn, xv⟩ := x
        have p0 : wr.cell? ⟨b, off + k * 2, none⟩ = some (.string xn) := pc 0 _ rfl
        have p1 : wr.cell? ⟨b, off + k * 2 + 1, none⟩ = some (.int .i64 xv) := pc 1 _ rfl
        have RC := Lib.hid (fun W => refHard_any xn W XF.out.1)
        clear pc
        by_cases h0 : k = 0
        · have g0 : decide (0 < k) = false := decide_eq_false (by omega)
          have hpk : bkOf h k = ⟨#[]⟩ := by unfold bkOf; rw [if_pos h0]
          clear h0 PV
          cases hard : hardB xn with
          | false =>
            rw [hard] at RC
            have NO : Hid (S = false) := Lib.hid (by rw [R.out.2.1, HX.out]; unfold hdsUp hdB; simp only; rw [hard]; simp)
            clear hard HX hpk
            have r2 : ∀ (dq : Nat) (os : Array Obj), (grow (redrawn wr dq) os).cell? ⟨w.heap.size, 4, none⟩ = some (.slice (some ⟨b, off, none⟩) n u3) := fun dq os => cell_regrown k4 dq os
            have r0 : ∀ (dq : Nat) (os : Array Obj), (grow (redrawn wr dq) os).cell? ⟨b, off + k * 2, none⟩ = some (.string xn) := fun dq os => cell_regrown p0 dq os
            have r1 : ∀ (dq : Nat) (os : Array Obj), (grow (redrawn wr dq) os).cell? ⟨b, off + k * 2 + 1, none⟩ = some (.int .i64 xv) := fun dq os => cell_regrown p1 dq os
            have xB : Hid (∀ (dq : Nat) (os : Array Obj), Below wr.heap.size wr (grow (redrawn wr dq) os)) := Lib.hid fun dq os => below_regrown wr dq os
            have xQ : Hid (∀ d os, Calls Tryz.prog 91 #[.string xn] (grow (redrawn wr d) os) fun e w'' => e = .returned (.bool false) ∧ ∃ p : Regrown, w'' = grow (redrawn wr p.d) p.os) := Lib.hid fun d os => Calls.regrown_of ((RC.out _).mono fun _ _ q => ⟨q.1, by rw [q.2]; exact Below.refl _ _⟩)
            clear RC
            go_wp2_with fail
            refine wp_region_quiet_below (by kernel_rfl) (by kernel_rfl) ?_
            repeat (go_big_quiet_step (exact xQ.out _ _))
            refine wpQuiet_nil ?_
            intro _ hw'
            obtain ⟨⟨dq, osq⟩, hw''⟩ := hw'
            subst hw''
            have K9 := Lib.hid (R.out.2.2.below (xB.out dq osq))
            clear r0 r1 r2 xB xQ p0 p1 k4
            obtain ⟨W9, hW9⟩ : ∃ W, W = grow (redrawn wr dq) osq := ⟨_, rfl⟩
            rw [← hW9] at K9 ⊢
            clear hW9
            have BF := Lib.hid K9.out.be
            go_wp2_with fail
            go_ret
            exact ⟨by rw [NO.out]; rfl, BF.out⟩
          | true =>
            rw [hard] at RC
            by_cases zv : 0 ≤ xv
            · have gv : decide (xv < 0) = false := decide_eq_false (by omega)
              have OK : Hid (S = hdsUp (bkOf h (k + 1)) (h.drop (k + 1))) := Lib.hid (by rw [R.out.2.1, HX.out, hdsUp_cons]; unfold hdB; simp only; rw [hpk, hard_ne hard, hard, decide_eq_true zv, HB.out]; simp)
              clear hpk HX hard zv
              have r2 : ∀ (dq : Nat) (os : Array Obj), (grow (redrawn wr dq) os).cell? ⟨w.heap.size, 4, none⟩ = some (.slice (some ⟨b, off, none⟩) n u3) := fun dq os => cell_regrown k4 dq os
              have r0 : ∀ (dq : Nat) (os : Array Obj), (grow (redrawn wr dq) os).cell? ⟨b, off + k * 2, none⟩ = some (.string xn) := fun dq os => cell_regrown p0 dq os
              have r1 : ∀ (dq : Nat) (os : Array Obj), (grow (redrawn wr dq) os).cell? ⟨b, off + k * 2 + 1, none⟩ = some (.int .i64 xv) := fun dq os => cell_regrown p1 dq os
              have xB : Hid (∀ (dq : Nat) (os : Array Obj), Below wr.heap.size wr (grow (redrawn wr dq) os)) := Lib.hid fun dq os => below_regrown wr dq os
              have xQ : Hid (∀ d os, Calls Tryz.prog 91 #[.string xn] (grow (redrawn wr d) os) fun e w'' => e = .returned (.bool true) ∧ ∃ p : Regrown, w'' = grow (redrawn wr p.d) p.os) := Lib.hid fun d os => Calls.regrown_of ((RC.out _).mono fun _ _ q => ⟨q.1, by rw [q.2]; exact Below.refl _ _⟩)
              clear RC
              go_wp2_with fail
              refine wp_region_quiet_below (by kernel_rfl) (by kernel_rfl) ?_
              repeat (go_big_quiet_step (exact xQ.out _ _))
              refine wpQuiet_nil ?_
              intro _ hw'
              obtain ⟨⟨dq, osq⟩, hw''⟩ := hw'
              subst hw''
              have K9 := Lib.hid (R.out.2.2.below (xB.out dq osq))
              clear r0 r1 r2 xB xQ p0 p1 k4
              obtain ⟨W9, hW9⟩ : ∃ W, W = grow (redrawn wr dq) osq := ⟨_, rfl⟩
              rw [← hW9] at K9 ⊢
              clear hW9
              have BF := Lib.hid K9.out.be
              go_wp2_with fail
              go_roundg (n - (k + 1))
              case measure => have := R.out.1; omega
              case rel => exact ⟨k + 1, by omega, rfl, by go_num, OK.out, K9.out⟩
            · have gv : decide (xv < 0) = true := decide_eq_true (by omega)
              have NO : Hid (S = false) := Lib.hid (by rw [R.out.2.1, HX.out]; unfold hdsUp hdB; simp only; rw [decide_eq_false zv]; simp)
              clear zv hard HX hpk
              have r2 : ∀ (dq : Nat) (os : Array Obj), (grow (redrawn wr dq) os).cell? ⟨w.heap.size, 4, none⟩ = some (.slice (some ⟨b, off, none⟩) n u3) := fun dq os => cell_regrown k4 dq os
              have r0 : ∀ (dq : Nat) (os : Array Obj), (grow (redrawn wr dq) os).cell? ⟨b, off + k * 2, none⟩ = some (.string xn) := fun dq os => cell_regrown p0 dq os
              have r1 : ∀ (dq : Nat) (os : Array Obj), (grow (redrawn wr dq) os).cell? ⟨b, off + k * 2 + 1, none⟩ = some (.int .i64 xv) := fun dq os => cell_regrown p1 dq os
              have xB : Hid (∀ (dq : Nat) (os : Array Obj), Below wr.heap.size wr (grow (redrawn wr dq) os)) := Lib.hid fun dq os => below_regrown wr dq os
              have xQ : Hid (∀ d os, Calls Tryz.prog 91 #[.string xn] (grow (redrawn wr d) os) fun e w'' => e = .returned (.bool true) ∧ ∃ p : Regrown, w'' = grow (redrawn wr p.d) p.os) := Lib.hid fun d os => Calls.regrown_of ((RC.out _).mono fun _ _ q => ⟨q.1, by rw [q.2]; exact Below.refl _ _⟩)
              clear RC
              go_wp2_with fail
              refine wp_region_quiet_below (by kernel_rfl) (by kernel_rfl) ?_
              repeat (go_big_quiet_step (exact xQ.out _ _))
              refine wpQuiet_nil ?_
              intro _ hw'
              obtain ⟨⟨dq, osq⟩, hw''⟩ := hw'
              subst hw''
              have K9 := Lib.hid (R.out.2.2.below (xB.out dq osq))
              clear r0 r1 r2 xB xQ p0 p1 k4
              obtain ⟨W9, hW9⟩ : ∃ W, W = grow (redrawn wr dq) osq := ⟨_, rfl⟩
              rw [← hW9] at K9 ⊢
              clear hW9
              have BF := Lib.hid K9.out.be
              go_wp2_with fail
              go_ret
              exact ⟨by rw [NO.out]; rfl, BF.out⟩
        · have g0 : decide (0 < k) = true := decide_eq_true (by omega)
          obtain ⟨pr, q0, hpk⟩ := PV.out (by omega)
          have i1 : (0 : Int) ≤ (k : Int) - 1 := by omega
          have i2 : (k : Int) - 1 < (n : Int) := by omega
          have i3 : IntKind.i64.wrap ((k : Int) - 1) = (k : Int) - 1 := by rw [IntKind.wrap_i64]; omega
          have i4 : ((k : Int) - 1).toNat = k - 1 := by omega
          clear PV h0
          cases hard : hardB xn with
          | false =>
            rw [hard] at RC
            have NO : Hid (S = false) := Lib.hid (by rw [R.out.2.1, HX.out]; unfold hdsUp hdB; simp only; rw [hard]; simp)
            clear hard HX hpk
            have r2 : ∀ (dq : Nat) (os : Array Obj), (grow (redrawn wr dq) os).cell? ⟨w.heap.size, 4, none⟩ = some (.slice (some ⟨b, off, none⟩) n u3) := fun dq os => cell_regrown k4 dq os
            have r0 : ∀ (dq : Nat) (os : Array Obj), (grow (redrawn wr dq) os).cell? ⟨b, off + k * 2, none⟩ = some (.string xn) := fun dq os => cell_regrown p0 dq os
            have r1 : ∀ (dq : Nat) (os : Array Obj), (grow (redrawn wr dq) os).cell? ⟨b, off + k * 2 + 1, none⟩ = some (.int .i64 xv) := fun dq os => cell_regrown p1 dq os
            have r3 : ∀ (dq : Nat) (os : Array Obj), (grow (redrawn wr dq) os).cell? ⟨b, off + (k - 1) * 2, none⟩ = some (.string pr) := fun dq os => cell_regrown q0 dq os
            have xB : Hid (∀ (dq : Nat) (os : Array Obj), Below wr.heap.size wr (grow (redrawn wr dq) os)) := Lib.hid fun dq os => below_regrown wr dq os
            have xQ : Hid (∀ d os, Calls Tryz.prog 91 #[.string xn] (grow (redrawn wr d) os) fun e w'' => e = .returned (.bool false) ∧ ∃ p : Regrown, w'' = grow (redrawn wr p.d) p.os) := Lib.hid fun d os => Calls.regrown_of ((RC.out _).mono fun _ _ q => ⟨q.1, by rw [q.2]; exact Below.refl _ _⟩)
            clear RC
            go_wp2_with fail
            refine wp_region_quiet_below (by kernel_rfl) (by kernel_rfl) ?_
            repeat (go_big_quiet_step (exact xQ.out _ _))
            refine wpQuiet_nil ?_
            intro _ hw'
            obtain ⟨⟨dq, osq⟩, hw''⟩ := hw'
            subst hw''
            have K9 := Lib.hid (R.out.2.2.below (xB.out dq osq))
            clear r0 r1 r2 r3 q0 xB xQ p0 p1 k4
            obtain ⟨W9, hW9⟩ : ∃ W, W = grow (redrawn wr dq) osq := ⟨_, rfl⟩
            rw [← hW9] at K9 ⊢
            clear hW9
            have BF := Lib.hid K9.out.be
            go_wp2_with fail
            go_ret
            exact ⟨by rw [NO.out]; rfl, BF.out⟩
          | true =>
            rw [hard] at RC
            by_cases zv : 0 ≤ xv
            · have gv : decide (xv < 0) = false := decide_eq_false (by omega)
              cases hl : Op.bytesLess pr.toList xn.toList with
              | false =>
                have NO : Hid (S = false) := Lib.hid (by rw [R.out.2.1, HX.out]; unfold hdsUp hdB; simp only; rw [hpk, show L.ltS pr xn = false from hl]; simp)
                clear hpk HX
                have r2 : ∀ (dq : Nat) (os : Array Obj), (grow (redrawn wr dq) os).cell? ⟨w.heap.size, 4, none⟩ = some (.slice (some ⟨b, off, none⟩) n u3) := fun dq os => cell_regrown k4 dq os
                have r0 : ∀ (dq : Nat) (os : Array Obj), (grow (redrawn wr dq) os).cell? ⟨b, off + k * 2, none⟩ = some (.string xn) := fun dq os => cell_regrown p0 dq os
                have r1 : ∀ (dq : Nat) (os : Array Obj), (grow (redrawn wr dq) os).cell? ⟨b, off + k * 2 + 1, none⟩ = some (.int .i64 xv) := fun dq os => cell_regrown p1 dq os
                have r3 : ∀ (dq : Nat) (os : Array Obj), (grow (redrawn wr dq) os).cell? ⟨b, off + (k - 1) * 2, none⟩ = some (.string pr) := fun dq os => cell_regrown q0 dq os
                have xB : Hid (∀ (dq : Nat) (os : Array Obj), Below wr.heap.size wr (grow (redrawn wr dq) os)) := Lib.hid fun dq os => below_regrown wr dq os
                have xQ : Hid (∀ d os, Calls Tryz.prog 91 #[.string xn] (grow (redrawn wr d) os) fun e w'' => e = .returned (.bool true) ∧ ∃ p : Regrown, w'' = grow (redrawn wr p.d) p.os) := Lib.hid fun d os => Calls.regrown_of ((RC.out _).mono fun _ _ q => ⟨q.1, by rw [q.2]; exact Below.refl _ _⟩)
                clear RC
                go_wp2_with fail
                refine wp_region_quiet_below (by kernel_rfl) (by kernel_rfl) ?_
                repeat (go_big_quiet_step (exact xQ.out _ _))
                refine wpQuiet_nil ?_
                intro _ hw'
                obtain ⟨⟨dq, osq⟩, hw''⟩ := hw'
                subst hw''
                have K9 := Lib.hid (R.out.2.2.below (xB.out dq osq))
                clear r0 r1 r2 r3 q0 xB xQ p0 p1 k4
                obtain ⟨W9, hW9⟩ : ∃ W, W = grow (redrawn wr dq) osq := ⟨_, rfl⟩
                rw [← hW9] at K9 ⊢
                clear hW9
                have BF := Lib.hid K9.out.be
                go_wp2_with fail
                go_ret
                exact ⟨by rw [NO.out]; rfl, BF.out⟩
              | true =>
                have OK : Hid (S = hdsUp (bkOf h (k + 1)) (h.drop (k + 1))) := Lib.hid (by rw [R.out.2.1, HX.out, hdsUp_cons]; unfold hdB; simp only; rw [hpk, show L.ltS pr xn = true from hl, hard, decide_eq_true zv, HB.out]; simp)
                clear hpk HX hard zv
                have r2 : ∀ (dq : Nat) (os : Array Obj), (grow (redrawn wr dq) os).cell? ⟨w.heap.size, 4, none⟩ = some (.slice (some ⟨b, off, none⟩) n u3) := fun dq os => cell_regrown k4 dq os
                have r0 : ∀ (dq : Nat) (os : Array Obj), (grow (redrawn wr dq) os).cell? ⟨b, off + k * 2, none⟩ = some (.string xn) := fun dq os => cell_regrown p0 dq os
                have r1 : ∀ (dq : Nat) (os : Array Obj), (grow (redrawn wr dq) os).cell? ⟨b, off + k * 2 + 1, none⟩ = some (.int .i64 xv) := fun dq os => cell_regrown p1 dq os
                have r3 : ∀ (dq : Nat) (os : Array Obj), (grow (redrawn wr dq) os).cell? ⟨b, off + (k - 1) * 2, none⟩ = some (.string pr) := fun dq os => cell_regrown q0 dq os
                have xB : Hid (∀ (dq : Nat) (os : Array Obj), Below wr.heap.size wr (grow (redrawn wr dq) os)) := Lib.hid fun dq os => below_regrown wr dq os
                have xQ : Hid (∀ d os, Calls Tryz.prog 91 #[.string xn] (grow (redrawn wr d) os) fun e w'' => e = .returned (.bool true) ∧ ∃ p : Regrown, w'' = grow (redrawn wr p.d) p.os) := Lib.hid fun d os => Calls.regrown_of ((RC.out _).mono fun _ _ q => ⟨q.1, by rw [q.2]; exact Below.refl _ _⟩)
                clear RC
                go_wp2_with fail
                refine wp_region_quiet_below (by kernel_rfl) (by kernel_rfl) ?_
                repeat (go_big_quiet_step (exact xQ.out _ _))
                refine wpQuiet_nil ?_
                intro _ hw'
                obtain ⟨⟨dq, osq⟩, hw''⟩ := hw'
                subst hw''
                have K9 := Lib.hid (R.out.2.2.below (xB.out dq osq))
                clear r0 r1 r2 r3 q0 xB xQ p0 p1 k4
                obtain ⟨W9, hW9⟩ : ∃ W, W = grow (redrawn wr dq) osq := ⟨_, rfl⟩
                rw [← hW9] at K9 ⊢
                clear hW9
                have BF := Lib.hid K9.out.be
                go_wp2_with fail
                go_roundg (n - (k + 1))
                case measure => have := R.out.1; omega
                case rel => exact ⟨k + 1, by omega, rfl, by go_num, OK.out, K9.out⟩
            · have gv : decide (xv < 0) = true := decide_eq_true (by omega)
              have NO : Hid (S = false) := Lib.hid (by rw [R.out.2.1, HX.out]; unfold hdsUp hdB; simp only; rw [decide_eq_false zv]; simp)
              clear zv hard HX hpk
              have r2 : ∀ (dq : Nat) (os : Array Obj), (grow (redrawn wr dq) os).cell? ⟨w.heap.size, 4, none⟩ = some (.slice (some ⟨b, off, none⟩) n u3) := fun dq os => cell_regrown k4 dq os
              have r0 : ∀ (dq : Nat) (os : Array Obj), (grow (redrawn wr dq) os).cell? ⟨b, off + k * 2, none⟩ = some (.string xn) := fun dq os => cell_regrown p0 dq os
              have r1 : ∀ (dq : Nat) (os : Array Obj), (grow (redrawn wr dq) os).cell? ⟨b, off + k * 2 + 1, none⟩ = some (.int .i64 xv) := fun dq os => cell_regrown p1 dq os
              have r3 : ∀ (dq : Nat) (os : Array Obj), (grow (redrawn wr dq) os).cell? ⟨b, off + (k - 1) * 2, none⟩ = some (.string pr) := fun dq os => cell_regrown q0 dq os
              have xB : Hid (∀ (dq : Nat) (os : Array Obj), Below wr.heap.size wr (grow (redrawn wr dq) os)) := Lib.hid fun dq os => below_regrown wr dq os
              have xQ : Hid (∀ d os, Calls Tryz.prog 91 #[.string xn] (grow (redrawn wr d) os) fun e w'' => e = .returned (.bool true) ∧ ∃ p : Regrown, w'' = grow (redrawn wr p.d) p.os) := Lib.hid fun d os => Calls.regrown_of ((RC.out _).mono fun _ _ q => ⟨q.1, by rw [q.2]; exact Below.refl _ _⟩)
              clear RC
              go_wp2_with fail
              refine wp_region_quiet_below (by kernel_rfl) (by kernel_rfl) ?_
              repeat (go_big_quiet_step (exact xQ.out _ _))
              refine wpQuiet_nil ?_
              intro _ hw'
              obtain ⟨⟨dq, osq⟩, hw''⟩ := hw'
              subst hw''
              have K9 := Lib.hid (R.out.2.2.below (xB.out dq osq))
              clear r0 r1 r2 r3 q0 xB xQ p0 p1 k4
              obtain ⟨W9, hW9⟩ : ∃ W, W = grow (redrawn wr dq) osq := ⟨_, rfl⟩
              rw [← hW9] at K9 ⊢
              clear hW9
              have BF := Lib.hid K9.out.be
              go_wp2_with fail
              go_ret
              exact ⟨by rw [NO.out]; rfl, BF.out⟩
      · have YES : Hid (S = true) := Lib.hid (by
          rw [R.out.2.1, List.drop_eq_nil_of_le (by rw [← HN0.out]; omega)]; rfl)
        have BF := Lib.hid R.out.2.2.be
        go_wp2_with fail
        go_ret
        exact ⟨by rw [YES.out]; rfl, BF.out⟩
  have gk0 : decide (sk ≥ 0) = true := decide_eq_true (by omega)
  have gk4 : decide (sk ≤ 4) = true := decide_eq_true (by omega)
  have g5 : (sk == 5) = false := by rw [beq_eq_false_iff_ne]; omega
  by_cases a3 : sa = 0
  case neg =>
    have gaz : (sa == 0) = false := by rw [beq_eq_false_iff_ne]; omega
    have SC : Hid (scB sk sa = false) := Lib.hid (by unfold scB inB; rw [if_neg (by omega), decide_eq_false a3]; simp)
    clear c1 c2 c3 a3
    have NO : Hid (S = false) := Lib.hid (by rw [ES.out, SC.out]; simp)
    go_enter Tryz.func57, Tryz.ntmps57
    go_wp2_with fail
    refine NA.out.mono ?_
    rintro e w1 ⟨rfl, hb⟩
    have K1 := Lib.hid (K0.out.below hb)
    have BF := Lib.hid K1.out.be
    clear hb NA hX' hY' d0 d1 c2 c3 s0 s1 K0
    cases h1 : namedB p m with
    | false =>
      clear h1
      go_wp2_with fail
      go_ret
      exact ⟨by rw [NO.out]; rfl, BF.out⟩
    | true =>
      clear h1
      go_wp2_with fail
      go_ret
      exact ⟨by rw [NO.out]; rfl, BF.out⟩
  have gaz : (sa == 0) = true := by rw [beq_iff_eq]; omega
  have SC : Hid (scB sk sa = true) := Lib.hid (by unfold scB inB; rw [if_neg (by omega), decide_eq_true (show 0 ≤ sk by omega), decide_eq_true (show sk ≤ 4 by omega), decide_eq_true a3]; rfl)
  clear c1 c2 c3 a3
  go_enter Tryz.func57, Tryz.ntmps57
  go_wp2_with fail
  refine NA.out.mono ?_
  rintro e w1 ⟨rfl, hb⟩
  have K1 := Lib.hid (K0.out.below hb)
  have BF := Lib.hid K1.out.be
  clear hb NA hX' hY' d0 d1 c2 c3 s0 s1 K0
  cases h1 : namedB p m with
  | false =>
    have NO : Hid (S = false) := Lib.hid (by rw [ES.out, h1]; rfl)
    clear h1
    go_wp2_with fail
    go_ret
    exact ⟨by rw [NO.out]; rfl, BF.out⟩
  | true =>
  have d4 : w1.cell? ⟨w.heap.size, 4, none⟩ = some (.slice u1 n u3) := by rw [cell_of_row w1 _ 4 _ _ _ K1.out.o]; rfl
  by_cases l1 : n < 1
  · have NO : Hid (S = false) := Lib.hid (by rw [ES.out]; unfold hdsB; rw [decide_eq_false (show ¬ 1 ≤ h.length by rw [← HN0.out]; omega)]; simp)
    have g1 : decide ((n : Int) < 1) = true := decide_eq_true (by omega)
    clear h1 l1
    go_wp2_with fail
    go_ret
    exact ⟨by rw [NO.out]; rfl, BF.out⟩
  by_cases l2 : 16 < n
  · have NO : Hid (S = false) := Lib.hid (by rw [ES.out]; unfold hdsB; rw [decide_eq_false (show ¬ h.length ≤ 16 by rw [← HN0.out]; omega)]; simp)
    have g1 : decide ((n : Int) < 1) = false := decide_eq_false (by omega)
    have g2 : decide ((n : Int) > 16) = true := decide_eq_true (by omega)
    clear h1 l1 l2
    go_wp2_with fail
    go_ret
    exact ⟨by rw [NO.out]; rfl, BF.out⟩
  have SU : Aside (S = hdsUp (bkOf h 0) (h.drop 0)) := by
    show _ = _
    rw [ES.out, h1, SC.out]; unfold hdsB
    rw [decide_eq_true (show 1 ≤ h.length by rw [← HN0.out]; omega), decide_eq_true (show h.length ≤ 16 by rw [← HN0.out]; omega)]; rfl
  have gn1 : decide ((n : Int) < 1) = false := decide_eq_false (by omega)
  have gn2 : decide ((n : Int) > 16) = false := decide_eq_false (by omega)
  clear h1
  go_wp2_with fail
  clear gn1 gn2 d4 BF
  go_loopg [6] n (fun gg si wr => ∃ (k : Nat), k ≤ n ∧ gg = n - k ∧ si = .int .i64 k ∧ S = hdsUp (bkOf h k) (h.drop k) ∧ FQ w #[.string p, .string m, .int .i64 sk, .int .i64 sa, .slice u1 n u3] wr)
  case atStart => exact ⟨0, Nat.zero_le _, rfl, rfl, SU.out, K1.out⟩
  case round =>
    clear K1 SU
    obtain ⟨k, hk, hg, rfl, hS, hfl⟩ := hrel
    have R : Aside (gk = n - k ∧ S = hdsUp (bkOf h k) (h.drop k) ∧ FQ w #[.string p, .string m, .int .i64 sk, .int .i64 sa, .slice u1 n u3] wr) := ⟨hg, hS, hfl⟩
    have k4 : wr.cell? ⟨w.heap.size, 4, none⟩ = some (.slice u1 n u3) := by rw [cell_of_row wr _ 4 _ _ _ hfl.o]; rfl
    clear hg hS hfl
    by_cases hlt : k < n
    · have hlt' : (k : Int) < (n : Int) := by omega
      have hlt2 : k < h.length := by rw [← HN0.out]; exact hlt
      obtain ⟨b, off, rfl, pc⟩ := (U.out.below R.out.2.2.be).at k hlt2
      have XF := Lib.hid (FT.out _ (getD_in (d := kAm.z) hlt2))
      have HX := Lib.hid (drop_one h k kAm.z hlt2)
      have HB := Lib.hid (bkOf_succ h k hlt2)
      have PV : Hid (0 < k → ∃ pr, wr.cell? ⟨b, off + (k - 1) * 2, none⟩ = some (.string pr) ∧ bkOf h k = pr) := Lib.hid fun h0 => by
        obtain ⟨b', off', ea, pc'⟩ := (U.out.below R.out.2.2.be).at (k - 1) (by omega)
        simp only [Option.some.injEq, Addr.mk.injEq, and_true] at ea
        obtain ⟨rfl, rfl⟩ := ea
        exact ⟨_, pc' 0 _ rfl, by unfold bkOf; rw [if_neg (by omega)]⟩
      obtain ⟨x, hx⟩ : ∃ x, x = h.getD k kAm.z := ⟨_, rfl⟩
      rw [← hx] at pc XF HX HB
      clear hx
      obtain ⟨xn, xv⟩ := x
      have p0 : wr.cell? ⟨b, off + k * 2, none⟩ = some (.string xn) := pc 0 _ rfl
      have p1 : wr.cell? ⟨b, off + k * 2 + 1, none⟩ = some (.int .i64 xv) := pc 1 _ rfl
      have RC := Lib.hid (fun W => refHard_any xn W XF.out.1)
      clear pc
      by_cases h0 : k = 0
      · have g0 : decide (0 < k) = false := decide_eq_false (by omega)
        have hpk : bkOf h k = ⟨#[]⟩ := by unfold bkOf; rw [if_pos h0]
        clear h0 PV
        cases hard : hardB xn with
        | false =>
          rw [hard] at RC
          have NO : Hid (S = false) := Lib.hid (by rw [R.out.2.1, HX.out]; unfold hdsUp hdB; simp only; rw [hard]; simp)
          clear hard HX hpk
          have r2 : ∀ (dq : Nat) (os : Array Obj), (grow (redrawn wr dq) os).cell? ⟨w.heap.size, 4, none⟩ = some (.slice (some ⟨b, off, none⟩) n u3) := fun dq os => cell_regrown k4 dq os
          have r0 : ∀ (dq : Nat) (os : Array Obj), (grow (redrawn wr dq) os).cell? ⟨b, off + k * 2, none⟩ = some (.string xn) := fun dq os => cell_regrown p0 dq os
          have r1 : ∀ (dq : Nat) (os : Array Obj), (grow (redrawn wr dq) os).cell? ⟨b, off + k * 2 + 1, none⟩ = some (.int .i64 xv) := fun dq os => cell_regrown p1 dq os
          have xB : Hid (∀ (dq : Nat) (os : Array Obj), Below wr.heap.size wr (grow (redrawn wr dq) os)) := Lib.hid fun dq os => below_regrown wr dq os
          have xQ : Hid (∀ d os, Calls Tryz.prog 91 #[.string xn] (grow (redrawn wr d) os) fun e w'' => e = .returned (.bool false) ∧ ∃ p : Regrown, w'' = grow (redrawn wr p.d) p.os) := Lib.hid fun d os => Calls.regrown_of ((RC.out _).mono fun _ _ q => ⟨q.1, by rw [q.2]; exact Below.refl _ _⟩)
          clear RC
          go_wp2_with fail
          refine wp_region_quiet_below (by kernel_rfl) (by kernel_rfl) ?_
          repeat (go_big_quiet_step (exact xQ.out _ _))
          refine wpQuiet_nil ?_
          intro _ hw'
          obtain ⟨⟨dq, osq⟩, hw''⟩ := hw'
          subst hw''
          have K9 := Lib.hid (R.out.2.2.below (xB.out dq osq))
          clear r0 r1 r2 xB xQ p0 p1 k4
          obtain ⟨W9, hW9⟩ : ∃ W, W = grow (redrawn wr dq) osq := ⟨_, rfl⟩
          rw [← hW9] at K9 ⊢
          clear hW9
          have BF := Lib.hid K9.out.be
          go_wp2_with fail
          go_ret
          exact ⟨by rw [NO.out]; rfl, BF.out⟩
        | true =>
          rw [hard] at RC
          by_cases zv : 0 ≤ xv
          · have gv : decide (xv < 0) = false := decide_eq_false (by omega)
            have OK : Hid (S = hdsUp (bkOf h (k + 1)) (h.drop (k + 1))) := Lib.hid (by rw [R.out.2.1, HX.out, hdsUp_cons]; unfold hdB; simp only; rw [hpk, hard_ne hard, hard, decide_eq_true zv, HB.out]; simp)
            clear hpk HX hard zv
            have r2 : ∀ (dq : Nat) (os : Array Obj), (grow (redrawn wr dq) os).cell? ⟨w.heap.size, 4, none⟩ = some (.slice (some ⟨b, off, none⟩) n u3) := fun dq os => cell_regrown k4 dq os
            have r0 : ∀ (dq : Nat) (os : Array Obj), (grow (redrawn wr dq) os).cell? ⟨b, off + k * 2, none⟩ = some (.string xn) := fun dq os => cell_regrown p0 dq os
            have r1 : ∀ (dq : Nat) (os : Array Obj), (grow (redrawn wr dq) os).cell? ⟨b, off + k * 2 + 1, none⟩ = some (.int .i64 xv) := fun dq os => cell_regrown p1 dq os
            have xB : Hid (∀ (dq : Nat) (os : Array Obj), Below wr.heap.size wr (grow (redrawn wr dq) os)) := Lib.hid fun dq os => below_regrown wr dq os
            have xQ : Hid (∀ d os, Calls Tryz.prog 91 #[.string xn] (grow (redrawn wr d) os) fun e w'' => e = .returned (.bool true) ∧ ∃ p : Regrown, w'' = grow (redrawn wr p.d) p.os) := Lib.hid fun d os => Calls.regrown_of ((RC.out _).mono fun _ _ q => ⟨q.1, by rw [q.2]; exact Below.refl _ _⟩)
            clear RC
            go_wp2_with fail
            refine wp_region_quiet_below (by kernel_rfl) (by kernel_rfl) ?_
            repeat (go_big_quiet_step (exact xQ.out _ _))
            refine wpQuiet_nil ?_
            intro _ hw'
            obtain ⟨⟨dq, osq⟩, hw''⟩ := hw'
            subst hw''
            have K9 := Lib.hid (R.out.2.2.below (xB.out dq osq))
            clear r0 r1 r2 xB xQ p0 p1 k4
            obtain ⟨W9, hW9⟩ : ∃ W, W = grow (redrawn wr dq) osq := ⟨_, rfl⟩
            rw [← hW9] at K9 ⊢
            clear hW9
            have BF := Lib.hid K9.out.be
            go_wp2_with fail
            go_roundg (n - (k + 1))
            case measure => have := R.out.1; omega
            case rel => exact ⟨k + 1, by omega, rfl, by go_num, OK.out, K9.out⟩
          · have gv : decide (xv < 0) = true := decide_eq_true (by omega)
            have NO : Hid (S = false) := Lib.hid (by rw [R.out.2.1, HX.out]; unfold hdsUp hdB; simp only; rw [decide_eq_false zv]; simp)
            clear zv hard HX hpk
            have r2 : ∀ (dq : Nat) (os : Array Obj), (grow (redrawn wr dq) os).cell? ⟨w.heap.size, 4, none⟩ = some (.slice (some ⟨b, off, none⟩) n u3) := fun dq os => cell_regrown k4 dq os
            have r0 : ∀ (dq : Nat) (os : Array Obj), (grow (redrawn wr dq) os).cell? ⟨b, off + k * 2, none⟩ = some (.string xn) := fun dq os => cell_regrown p0 dq os
            have r1 : ∀ (dq : Nat) (os : Array Obj), (grow (redrawn wr dq) os).cell? ⟨b, off + k * 2 + 1, none⟩ = some (.int .i64 xv) := fun dq os => cell_regrown p1 dq os
            have xB : Hid (∀ (dq : Nat) (os : Array Obj), Below wr.heap.size wr (grow (redrawn wr dq) os)) := Lib.hid fun dq os => below_regrown wr dq os
            have xQ : Hid (∀ d os, Calls Tryz.prog 91 #[.string xn] (grow (redrawn wr d) os) fun e w'' => e = .returned (.bool true) ∧ ∃ p : Regrown, w'' = grow (redrawn wr p.d) p.os) := Lib.hid fun d os => Calls.regrown_of ((RC.out _).mono fun _ _ q => ⟨q.1, by rw [q.2]; exact Below.refl _ _⟩)
            clear RC
            go_wp2_with fail
            refine wp_region_quiet_below (by kernel_rfl) (by kernel_rfl) ?_
            repeat (go_big_quiet_step (exact xQ.out _ _))
            refine wpQuiet_nil ?_
            intro _ hw'
            obtain ⟨⟨dq, osq⟩, hw''⟩ := hw'
            subst hw''
            have K9 := Lib.hid (R.out.2.2.below (xB.out dq osq))
            clear r0 r1 r2 xB xQ p0 p1 k4
            obtain ⟨W9, hW9⟩ : ∃ W, W = grow (redrawn wr dq) osq := ⟨_, rfl⟩
            rw [← hW9] at K9 ⊢
            clear hW9
            have BF := Lib.hid K9.out.be
            go_wp2_with fail
            go_ret
            exact ⟨by rw [NO.out]; rfl, BF.out⟩
      · have g0 : decide (0 < k) = true := decide_eq_true (by omega)
        obtain ⟨pr, q0, hpk⟩ := PV.out (by omega)
        have i1 : (0 : Int) ≤ (k : Int) - 1 := by omega
        have i2 : (k : Int) - 1 < (n : Int) := by omega
        have i3 : IntKind.i64.wrap ((k : Int) - 1) = (k : Int) - 1 := by rw [IntKind.wrap_i64]; omega
        have i4 : ((k : Int) - 1).toNat = k - 1 := by omega
        clear PV h0
        cases hard : hardB xn with
        | false =>
          rw [hard] at RC
          have NO : Hid (S = false) := Lib.hid (by rw [R.out.2.1, HX.out]; unfold hdsUp hdB; simp only; rw [hard]; simp)
          clear hard HX hpk
          have r2 : ∀ (dq : Nat) (os : Array Obj), (grow (redrawn wr dq) os).cell? ⟨w.heap.size, 4, none⟩ = some (.slice (some ⟨b, off, none⟩) n u3) := fun dq os => cell_regrown k4 dq os
          have r0 : ∀ (dq : Nat) (os : Array Obj), (grow (redrawn wr dq) os).cell? ⟨b, off + k * 2, none⟩ = some (.string xn) := fun dq os => cell_regrown p0 dq os
          have r1 : ∀ (dq : Nat) (os : Array Obj), (grow (redrawn wr dq) os).cell? ⟨b, off + k * 2 + 1, none⟩ = some (.int .i64 xv) := fun dq os => cell_regrown p1 dq os
          have r3 : ∀ (dq : Nat) (os : Array Obj), (grow (redrawn wr dq) os).cell? ⟨b, off + (k - 1) * 2, none⟩ = some (.string pr) := fun dq os => cell_regrown q0 dq os
          have xB : Hid (∀ (dq : Nat) (os : Array Obj), Below wr.heap.size wr (grow (redrawn wr dq) os)) := Lib.hid fun dq os => below_regrown wr dq os
          have xQ : Hid (∀ d os, Calls Tryz.prog 91 #[.string xn] (grow (redrawn wr d) os) fun e w'' => e = .returned (.bool false) ∧ ∃ p : Regrown, w'' = grow (redrawn wr p.d) p.os) := Lib.hid fun d os => Calls.regrown_of ((RC.out _).mono fun _ _ q => ⟨q.1, by rw [q.2]; exact Below.refl _ _⟩)
          clear RC
          go_wp2_with fail
          refine wp_region_quiet_below (by kernel_rfl) (by kernel_rfl) ?_
          repeat (go_big_quiet_step (exact xQ.out _ _))
          refine wpQuiet_nil ?_
          intro _ hw'
          obtain ⟨⟨dq, osq⟩, hw''⟩ := hw'
          subst hw''
          have K9 := Lib.hid (R.out.2.2.below (xB.out dq osq))
          clear r0 r1 r2 r3 q0 xB xQ p0 p1 k4
          obtain ⟨W9, hW9⟩ : ∃ W, W = grow (redrawn wr dq) osq := ⟨_, rfl⟩
          rw [← hW9] at K9 ⊢
          clear hW9
          have BF := Lib.hid K9.out.be
          go_wp2_with fail
          go_ret
          exact ⟨by rw [NO.out]; rfl, BF.out⟩
        | true =>
          rw [hard] at RC
          by_cases zv : 0 ≤ xv
          · have gv : decide (xv < 0) = false := decide_eq_false (by omega)
            cases hl : Op.bytesLess pr.toList xn.toList with
            | false =>
              have NO : Hid (S = false) := Lib.hid (by rw [R.out.2.1, HX.out]; unfold hdsUp hdB; simp only; rw [hpk, show L.ltS pr xn = false from hl]; simp)
              clear hpk HX
              have r2 : ∀ (dq : Nat) (os : Array Obj), (grow (redrawn wr dq) os).cell? ⟨w.heap.size, 4, none⟩ = some (.slice (some ⟨b, off, none⟩) n u3) := fun dq os => cell_regrown k4 dq os
              have r0 : ∀ (dq : Nat) (os : Array Obj), (grow (redrawn wr dq) os).cell? ⟨b, off + k * 2, none⟩ = some (.string xn) := fun dq os => cell_regrown p0 dq os
              have r1 : ∀ (dq : Nat) (os : Array Obj), (grow (redrawn wr dq) os).cell? ⟨b, off + k * 2 + 1, none⟩ = some (.int .i64 xv) := fun dq os => cell_regrown p1 dq os
              have r3 : ∀ (dq : Nat) (os : Array Obj), (grow (redrawn wr dq) os).cell? ⟨b, off + (k - 1) * 2, none⟩ = some (.string pr) := fun dq os => cell_regrown q0 dq os
              have xB : Hid (∀ (dq : Nat) (os : Array Obj), Below wr.heap.size wr (grow (redrawn wr dq) os)) := Lib.hid fun dq os => below_regrown wr dq os
              have xQ : Hid (∀ d os, Calls Tryz.prog 91 #[.string xn] (grow (redrawn wr d) os) fun e w'' => e = .returned (.bool true) ∧ ∃ p : Regrown, w'' = grow (redrawn wr p.d) p.os) := Lib.hid fun d os => Calls.regrown_of ((RC.out _).mono fun _ _ q => ⟨q.1, by rw [q.2]; exact Below.refl _ _⟩)
              clear RC
              go_wp2_with fail
              refine wp_region_quiet_below (by kernel_rfl) (by kernel_rfl) ?_
              repeat (go_big_quiet_step (exact xQ.out _ _))
              refine wpQuiet_nil ?_
              intro _ hw'
              obtain ⟨⟨dq, osq⟩, hw''⟩ := hw'
              subst hw''
              have K9 := Lib.hid (R.out.2.2.below (xB.out dq osq))
              clear r0 r1 r2 r3 q0 xB xQ p0 p1 k4
              obtain ⟨W9, hW9⟩ : ∃ W, W = grow (redrawn wr dq) osq := ⟨_, rfl⟩
              rw [← hW9] at K9 ⊢
              clear hW9
              have BF := Lib.hid K9.out.be
              go_wp2_with fail
              go_ret
              exact ⟨by rw [NO.out]; rfl, BF.out⟩
            | true =>
              have OK : Hid (S = hdsUp (bkOf h (k + 1)) (h.drop (k + 1))) := Lib.hid (by rw [R.out.2.1, HX.out, hdsUp_cons]; unfold hdB; simp only; rw [hpk, show L.ltS pr xn = true from hl, hard, decide_eq_true zv, HB.out]; simp)
              clear hpk HX hard zv
              have r2 : ∀ (dq : Nat) (os : Array Obj), (grow (redrawn wr dq) os).cell? ⟨w.heap.size, 4, none⟩ = some (.slice (some ⟨b, off, none⟩) n u3) := fun dq os => cell_regrown k4 dq os
              have r0 : ∀ (dq : Nat) (os : Array Obj), (grow (redrawn wr dq) os).cell? ⟨b, off + k * 2, none⟩ = some (.string xn) := fun dq os => cell_regrown p0 dq os
              have r1 : ∀ (dq : Nat) (os : Array Obj), (grow (redrawn wr dq) os).cell? ⟨b, off + k * 2 + 1, none⟩ = some (.int .i64 xv) := fun dq os => cell_regrown p1 dq os
              have r3 : ∀ (dq : Nat) (os : Array Obj), (grow (redrawn wr dq) os).cell? ⟨b, off + (k - 1) * 2, none⟩ = some (.string pr) := fun dq os => cell_regrown q0 dq os
              have xB : Hid (∀ (dq : Nat) (os : Array Obj), Below wr.heap.size wr (grow (redrawn wr dq) os)) := Lib.hid fun dq os => below_regrown wr dq os
              have xQ : Hid (∀ d os, Calls Tryz.prog 91 #[.string xn] (grow (redrawn wr d) os) fun e w'' => e = .returned (.bool true) ∧ ∃ p : Regrown, w'' = grow (redrawn wr p.d) p.os) := Lib.hid fun d os => Calls.regrown_of ((RC.out _).mono fun _ _ q => ⟨q.1, by rw [q.2]; exact Below.refl _ _⟩)
              clear RC
              go_wp2_with fail
              refine wp_region_quiet_below (by kernel_rfl) (by kernel_rfl) ?_
              repeat (go_big_quiet_step (exact xQ.out _ _))
              refine wpQuiet_nil ?_
              intro _ hw'
              obtain ⟨⟨dq, osq⟩, hw''⟩ := hw'
              subst hw''
              have K9 := Lib.hid (R.out.2.2.below (xB.out dq osq))
              clear r0 r1 r2 r3 q0 xB xQ p0 p1 k4
              obtain ⟨W9, hW9⟩ : ∃ W, W = grow (redrawn wr dq) osq := ⟨_, rfl⟩
              rw [← hW9] at K9 ⊢
              clear hW9
              have BF := Lib.hid K9.out.be
              go_wp2_with fail
              go_roundg (n - (k + 1))
              case measure => have := R.out.1; omega
              case rel => exact ⟨k + 1, by omega, rfl, by go_num, OK.out, K9.out⟩
          · have gv : decide (xv < 0) = true := decide_eq_true (by omega)
            have NO : Hid (S = false) := Lib.hid (by rw [R.out.2.1, HX.out]; unfold hdsUp hdB; simp only; rw [decide_eq_false zv]; simp)
            clear zv hard HX hpk
            have r2 : ∀ (dq : Nat) (os : Array Obj), (grow (redrawn wr dq) os).cell? ⟨w.heap.size, 4, none⟩ = some (.slice (some ⟨b, off, none⟩) n u3) := fun dq os => cell_regrown k4 dq os
            have r0 : ∀ (dq : Nat) (os : Array Obj), (grow (redrawn wr dq) os).cell? ⟨b, off + k * 2, none⟩ = some (.string xn) := fun dq os => cell_regrown p0 dq os
            have r1 : ∀ (dq : Nat) (os : Array Obj), (grow (redrawn wr dq) os).cell? ⟨b, off + k * 2 + 1, none⟩ = some (.int .i64 xv) := fun dq os => cell_regrown p1 dq os
            have r3 : ∀ (dq : Nat) (os : Array Obj), (grow (redrawn wr dq) os).cell? ⟨b, off + (k - 1) * 2, none⟩ = some (.string pr) := fun dq os => cell_regrown q0 dq os
            have xB : Hid (∀ (dq : Nat) (os : Array Obj), Below wr.heap.size wr (grow (redrawn wr dq) os)) := Lib.hid fun dq os => below_regrown wr dq os
            have xQ : Hid (∀ d os, Calls Tryz.prog 91 #[.string xn] (grow (redrawn wr d) os) fun e w'' => e = .returned (.bool true) ∧ ∃ p : Regrown, w'' = grow (redrawn wr p.d) p.os) := Lib.hid fun d os => Calls.regrown_of ((RC.out _).mono fun _ _ q => ⟨q.1, by rw [q.2]; exact Below.refl _ _⟩)
            clear RC
            go_wp2_with fail
            refine wp_region_quiet_below (by kernel_rfl) (by kernel_rfl) ?_
            repeat (go_big_quiet_step (exact xQ.out _ _))
            refine wpQuiet_nil ?_
            intro _ hw'
            obtain ⟨⟨dq, osq⟩, hw''⟩ := hw'
            subst hw''
            have K9 := Lib.hid (R.out.2.2.below (xB.out dq osq))
            clear r0 r1 r2 r3 q0 xB xQ p0 p1 k4
            obtain ⟨W9, hW9⟩ : ∃ W, W = grow (redrawn wr dq) osq := ⟨_, rfl⟩
            rw [← hW9] at K9 ⊢
            clear hW9
            have BF := Lib.hid K9.out.be
            go_wp2_with fail
            go_ret
            exact ⟨by rw [NO.out]; rfl, BF.out⟩
    · have YES : Hid (S = true) := Lib.hid (by
        rw [R.out.2.1, List.drop_eq_nil_of_le (by rw [← HN0.out]; omega)]; rfl)
      have BF := Lib.hid R.out.2.2.be
      go_wp2_with fail
      go_ret
      exact ⟨by rw [YES.out]; rfl, BF.out⟩
end Go.Proofs.YtanpneahembhbaaGreatDoor
end S4
