/-
  The document's Resource: of every text.
-/
import Derived.Test.YtmkdmfjdhajiaaaGreatDoorObRa
namespace Go.Proofs.YtmkdmfjdhajiaaaGreatDoor
open Go.RowKit
theorem pieces_cut {c : UInt8} : ∀ (A B : List UInt8), c ∉ A → L.pieces c (A ++ c :: B) = A :: L.pieces c B := by
  intro A
  induction A with
  | nil => intro B _; simp [L.pieces]
  | cons b A ih =>
    intro B h
    have hb : ¬ b = c := fun e => h (by rw [e]; exact List.mem_cons_self ..)
    rw [List.cons_append]
    conv => lhs; rw [L.pieces]
    rw [if_neg hb, ih B (fun m => h (List.mem_cons_of_mem _ m))]
    rfl
theorem byte_at {s : ByteArray} {j : Nat} (hj : j < s.size) : s.data.toList[j]? = some (s.get! j) := by
  rw [L.get_lit s j hj]
  have : j < s.data.toList.length := by simpa using hj
  rw [List.getElem?_eq_getElem this]
  rfl
theorem rest_cut {s : ByteArray} {f i : Nat} (hf : f ≤ i) (hi : i < s.size) (hc : (s.get! i).toNat = 46) (hn : ∀ j, f ≤ j → j < i → (s.get! j).toNat ≠ 46) :
    L.pieces 46 (s.data.toList.drop f) = (s.data.toList.drop f).take (i - f) :: L.pieces 46 (s.data.toList.drop (i + 1)) := by
  have hl : i < s.data.toList.length := by simpa using hi
  have e46 : s.get! i = 46 := UInt8.toNat_inj.1 (by rw [hc]; rfl)
  have hd : s.data.toList.drop f = (s.data.toList.drop f).take (i - f) ++ 46 :: s.data.toList.drop (i + 1) := by
    have h1 := (List.take_append_drop (i - f) (s.data.toList.drop f)).symm
    rw [List.drop_drop, show f + (i - f) = i by omega, List.drop_eq_getElem_cons hl] at h1
    have h2 := byte_at hi
    rw [List.getElem?_eq_getElem hl, e46] at h2
    rw [Option.some.inj h2] at h1
    exact h1
  have nm : (46 : UInt8) ∉ (s.data.toList.drop f).take (i - f) := by
    intro m
    obtain ⟨k, hk, e⟩ := List.getElem_of_mem m
    have hk2 : k < i - f := by rw [List.length_take] at hk; omega
    rw [List.getElem_take, List.getElem_drop] at e
    have hj : f + k < s.size := by omega
    have h2 := byte_at hj
    rw [List.getElem?_eq_getElem (by simpa using hj), e] at h2
    exact hn (f + k) (by omega) (by omega) (by rw [← Option.some.inj h2]; rfl)
  conv => lhs; rw [hd]
  exact pieces_cut _ _ nm
theorem rest_none {s : ByteArray} {f : Nat} (hn : ∀ j, f ≤ j → j < s.size → (s.get! j).toNat ≠ 46) : L.pieces 46 (s.data.toList.drop f) = [s.data.toList.drop f] := by
  refine L.pieces_free 46 _ (fun m => ?_)
  obtain ⟨k, hk, e⟩ := List.getElem_of_mem m
  rw [List.getElem_drop] at e
  have hj : f + k < s.size := by rw [List.length_drop] at hk; have : s.data.toList.length = s.size := by simp
                                 omega
  have h2 := byte_at hj
  rw [List.getElem?_eq_getElem (by simpa using hj), e] at h2
  exact hn (f + k) (by omega) hj (by rw [← Option.some.inj h2]; rfl)
set_option maxHeartbeats 4000000 in
set_option maxRecDepth 100000 in
theorem refRes_any (s : ByteArray) (w : World) (hs : s.size ≤ 140737488355328) : Calls Tryz.prog 21 #[.string s] w fun e w' => e = .returned (.bool (resB s)) ∧ w' = w := by
  have HS := Lib.hid hs
  go_enter Tryz.func21, Tryz.ntmps21
  go_wp2_with fail
  go_loopg [3, 4] s.size (fun g sf si wr => ∃ (k f : Nat) (done : List ByteArray), k ≤ s.size ∧ f ≤ k ∧ g = s.size - k ∧ si = .int .i64 k ∧ sf = .int .i64 f ∧ dots s = done ++ (L.pieces 46 (s.data.toList.drop f)).map L.bytesOf ∧ done.all pieceB = true ∧ (∀ j, f ≤ j → j < k → (s.get! j).toNat ≠ 46) ∧ wr = w)
  case atStart => exact ⟨0, 0, [], Nat.zero_le _, Nat.le_refl _, rfl, rfl, rfl, by rw [List.drop_zero, List.nil_append]; rfl, rfl, fun j _ h => by omega, rfl⟩
  case round =>
    obtain ⟨k, f, done, hk, hfk, hg, rfl, rfl, hd, ha, hn, rfl⟩ := hrel
    have R : Aside (gk = s.size - k ∧ dots s = done ++ (L.pieces 46 (s.data.toList.drop f)).map L.bytesOf ∧ done.all pieceB = true ∧ (∀ j, f ≤ j → j < k → (s.get! j).toNat ≠ 46)) := ⟨hg, hd, ha, hn⟩
    clear hg hd ha hn
    by_cases hlt : k < s.size
    · have hlt' : (k : Int) < (s.size : Int) := by omega
      obtain ⟨c, hc⟩ : ∃ c, c = (s[k]'hlt).toNat := ⟨_, rfl⟩
      have C : Hid ((s.get! k).toNat = c) := Lib.hid (by rw [L.get_lit s k hlt]; exact hc.symm)
      have fc : ((s[k]'hlt).toNat : Int) = (c : Int) := by rw [hc]
      clear hc
      by_cases hx : c = 46
      · have gq : ((c : Int) == 46) = true := by rw [beq_iff_eq]; omega
        have b1 : (0 : Int) ≤ (f : Int) := by omega
        have b2 : (f : Int) ≤ (k : Int) := by omega
        have b3 : (k : Int) ≤ (s.size : Int) := by omega
        have EX : Hid (dots s = done ++ s.extract f k :: (L.pieces 46 (s.data.toList.drop (k + 1))).map L.bytesOf) := Lib.hid (by
          rw [R.out.2.1, rest_cut hfk hlt (C.out.trans hx) R.out.2.2.2, List.map_cons, bytes_extract])
        have PC := Lib.hid (refPiece_any (s.extract f k) wr (by have := HS.out; simp; omega))
        go_wp2_with fail
        refine PC.out.mono ?_
        rintro e w' ⟨rfl, rfl⟩
        by_cases hp : pieceB (s.extract f k) = true
        · rw [hp]
          have R2 : Aside (dots s = (done ++ [s.extract f k]) ++ (L.pieces 46 (s.data.toList.drop (k + 1))).map L.bytesOf ∧ (done ++ [s.extract f k]).all pieceB = true) := ⟨by rw [EX.out]; simp, by rw [List.all_append, R.out.2.2.1]; simp [hp]⟩
          clear hp PC EX
          go_wp2_with fail
          go_roundg (s.size - (k + 1))
          case measure => have := R.out.1; omega
          case rel => exact ⟨k + 1, k + 1, _, by omega, Nat.le_refl _, rfl, by go_num, by go_num, R2.out.1, R2.out.2, fun j h1 h2 => by omega, rfl⟩
        · have hp' : pieceB (s.extract f k) = false := by simpa using hp
          rw [hp']
          have hA : Hid (resB s = false) := Lib.hid (by unfold resB; rw [EX.out, List.all_append, List.all_cons, hp']; simp)
          clear hp hp' PC EX
          go_wp2_with fail
          go_ret
          exact ⟨by rw [hA.out]; rfl, rfl⟩
      · have gq : ((c : Int) == 46) = false := by rw [beq_eq_false_iff_ne]; omega
        have HX := Lib.hid hx
        clear hx
        go_wp2_with fail
        go_roundg (s.size - (k + 1))
        case measure => have := R.out.1; omega
        case rel => exact ⟨k + 1, f, done, by omega, by omega, rfl, by go_num, rfl, R.out.2.1, R.out.2.2.1, fun j h1 h2 => (by
          rcases Nat.lt_or_ge j k with q | q
          · exact R.out.2.2.2 j h1 q
          · rw [show j = k by omega, C.out]; exact HX.out), rfl⟩
    · obtain rfl : k = s.size := by omega
      have E : Hid (resB s = (decide (s.size ≤ 48) && pieceB (s.extract f s.size))) := Lib.hid (by
        unfold resB
        rw [R.out.2.1, rest_none R.out.2.2.2, List.all_append, R.out.2.2.1, bytes_extract]
        have : (s.data.toList.drop f).take (s.size - f) = s.data.toList.drop f := List.take_of_length_le (by rw [List.length_drop]; simp)
        rw [this]; simp)
      by_cases h48 : s.size ≤ 48
      · have g48 : decide ((s.size : Int) ≤ 48) = true := decide_eq_true (by omega)
        have b2 : (f : Int) ≤ (s.size : Int) := by omega
        have b1 : (0 : Int) ≤ (f : Int) := by omega
        have PC := Lib.hid (refPiece_any (s.extract f s.size) wr (by have := HS.out; simp; omega))
        rw [decide_eq_true h48, Bool.true_and] at E
        clear h48
        go_wp2_with fail
        refine PC.out.mono ?_
        rintro e w' ⟨rfl, rfl⟩
        go_wp2_with fail
        go_ret
        exact ⟨by rw [E.out]; rfl, rfl⟩
      · have g48 : decide ((s.size : Int) ≤ 48) = false := decide_eq_false (by omega)
        rw [decide_eq_false h48, Bool.false_and] at E
        clear h48
        go_wp2_with fail
        go_ret
        exact ⟨by rw [E.out]; rfl, rfl⟩
end Go.Proofs.YtmkdmfjdhajiaaaGreatDoor
