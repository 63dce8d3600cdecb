/-
  The documents Name: of every text.
-/
import Derived.Test.YtfkoiehnkelpoaaDoorLJoinsM
namespace Go.Proofs.YtfkoiehnkelpoaaDoor.L
open Go.RowKit
set_option maxHeartbeats 4000000 in
set_option maxRecDepth 100000 in
theorem refName_any (s : ByteArray) (w : World) : Calls Tryd.prog 67 #[.string s] w fun e w' => e = .returned (.bool (nameB s)) ∧ w' = w := by
  go_enter Tryd.func67, Tryd.ntmps67
  by_cases h0 : s.size = 0
  · have g0 : decide ((s.size : Int) < 1) = true := decide_eq_true (by omega)
    have hA : Hid (nameB s = false) := Lib.hid (by unfold nameB; rw [decide_eq_false (show ¬ 0 < s.size by omega)]; rfl)
    go_wp2
    go_ret
    exact ⟨by rw [hA.out]; rfl, rfl⟩
  have g0 : decide ((s.size : Int) < 1) = false := decide_eq_false (by omega)
  by_cases h1 : 32 < s.size
  · have g1 : decide ((s.size : Int) > 32) = true := decide_eq_true (by omega)
    have hA : Hid (nameB s = false) := Lib.hid (by unfold nameB; rw [decide_eq_false (show ¬ s.size ≤ 32 by omega), Bool.and_false, Bool.false_and])
    go_wp2
    go_ret
    exact ⟨by rw [hA.out]; rfl, rfl⟩
  have g1 : decide ((s.size : Int) > 32) = false := decide_eq_false (by omega)
  have w1 : wrap64 ((s.size : Int) - 1) = (s.size : Int) - 1 := by unfold wrap64; omega
  have hp : 0 < s.size := by omega
  have hl : s.size - 1 < s.size := by omega
  by_cases hf : (s[0]'hp).toNat = 45
  · have f0 : (((s[0]'hp).toNat : Int) == 45) = true := by rw [beq_iff_eq]; omega
    have hA : Hid (nameB s = false) := Lib.hid (nameB_false hp (by
      unfold okAt
      rw [get_lit s 0 hp, hf]
      rfl))
    go_wp2
    go_ret
    exact ⟨by rw [hA.out]; rfl, rfl⟩
  have f0 : (((s[0]'hp).toNat : Int) == 45) = false := by rw [beq_eq_false_iff_ne]; omega
  by_cases he : (s[s.size - 1]'hl).toNat = 45
  · have f1 : (((s[s.size - 1]'hl).toNat : Int) == 45) = true := by rw [beq_iff_eq]; omega
    have hA : Hid (nameB s = false) := Lib.hid (nameB_false hl (by
      unfold okAt
      rw [get_lit s _ hl, he, decide_eq_false (show ¬ s.size - 1 + 1 < s.size by omega), Bool.and_false]
      rfl))
    go_wp2
    go_ret
    exact ⟨by rw [hA.out]; rfl, rfl⟩
  have f1 : (((s[s.size - 1]'hl).toNat : Int) == 45) = false := by rw [beq_eq_false_iff_ne]; omega
  have F0 := Lib.hid hf
  have F1 := Lib.hid he
  clear hf he
  go_wp2
  clear f0 f1
  go_loopg [3] s.size (fun g si wr => ∃ (k : Nat), k ≤ s.size ∧ g = s.size - k ∧ si = .int .i64 k ∧ (∀ i, i < k → i < s.size → okAt s i = true) ∧ wr = w)
  case atStart => exact ⟨0, Nat.zero_le _, rfl, rfl, fun i h => by omega, rfl⟩
  case round =>
    obtain ⟨k, hk, hg, rfl, hok, rfl⟩ := hrel
    have R : Aside (gk = s.size - k ∧ ∀ i, i < k → i < s.size → okAt s i = true) := ⟨hg, hok⟩
    clear hg hok
    by_cases hlt : k < s.size
    · have hlt' : (k : Int) < (s.size : Int) := by omega
      obtain ⟨c, hc⟩ : ∃ c, c = (s[k]'hlt).toNat := ⟨_, rfl⟩
      have hc' : (s.get! k).toNat = c := by rw [get_lit s k hlt]; exact hc.symm
      have C : Hid ((s.get! k).toNat = c) := hc'
      have fc : ((s[k]'hlt).toNat : Int) = (c : Int) := by rw [hc]
      clear hc hc'
      rcases (by omega : (c = 45) ∨ (c < 48 ∧ c ≠ 45) ∨ (48 ≤ c ∧ c ≤ 57) ∨ (58 ≤ c ∧ c ≤ 96) ∨ (97 ≤ c ∧ c ≤ 122) ∨ (122 < c)) with hx | hx | hx | hx | hx | hx
      · have gge97 : decide ((c : Int) ≥ 97) = false := decide_eq_false (by omega)
        have gge48 : decide ((c : Int) ≥ 48) = false := decide_eq_false (by omega)
        have gne45 : ((c : Int) != 45) = false := by rw [bne_eq_false_iff_eq]; omega
        have gq : ((c : Int) == 45) = true := by rw [beq_iff_eq]; omega
        have hA : Hid (okAt s k = true) := Lib.hid (by
          have n0 : 0 < k := by
            rcases Nat.eq_zero_or_pos k with e | e
            · subst e
              exact absurd ((get_lit s 0 hp).symm ▸ hx ▸ C.out : (s[0]'hp).toNat = 45) F0.out
            · exact e
          have n1 : k + 1 < s.size := by
            rcases Nat.lt_or_ge (k + 1) s.size with e | e
            · exact e
            · have ek : k = s.size - 1 := by omega
              subst ek
              have h1 := C.out
              rw [get_lit s _ hl, hx] at h1
              exact absurd h1 F1.out
          unfold okAt
          rw [C.out, decide_eq_true n0, decide_eq_true n1, decide_eq_true hx, Bool.and_self, Bool.and_self, Bool.or_true])
        clear hx
        go_wp2
        go_roundg (s.size - (k + 1))
        case measure => have := R.out.1; omega
        case rel => exact ⟨k + 1, by omega, rfl, by go_num, grow_ok R.out.2 hA.out, rfl⟩
      · have gge97 : decide ((c : Int) ≥ 97) = false := decide_eq_false (by omega)
        have gge48 : decide ((c : Int) ≥ 48) = false := decide_eq_false (by omega)
        have gne45 : ((c : Int) != 45) = true := by rw [bne_iff_ne]; omega
        have gq : ((c : Int) == 45) = false := by rw [beq_eq_false_iff_ne]; omega
        have hA : Hid (nameB s = false) := Lib.hid (nameB_false hlt (by
          unfold okAt plainN
          rw [C.out, decide_eq_false (show ¬ c = 45 by omega), Bool.and_false, Bool.or_false]
          simp
          omega))
        clear hx
        go_wp2
        go_ret
        exact ⟨by rw [hA.out]; rfl, rfl⟩
      · have gge97 : decide ((c : Int) ≥ 97) = false := decide_eq_false (by omega)
        have gge48 : decide ((c : Int) ≥ 48) = true := decide_eq_true (by omega)
        have gle57 : decide ((c : Int) ≤ 57) = true := decide_eq_true (by omega)
        have hA : Hid (okAt s k = true) := Lib.hid (by unfold okAt plainN; rw [C.out]; simp [hx])
        clear hx
        go_wp2
        go_roundg (s.size - (k + 1))
        case measure => have := R.out.1; omega
        case rel => exact ⟨k + 1, by omega, rfl, by go_num, grow_ok R.out.2 hA.out, rfl⟩
      · have gge97 : decide ((c : Int) ≥ 97) = false := decide_eq_false (by omega)
        have gge48 : decide ((c : Int) ≥ 48) = true := decide_eq_true (by omega)
        have gle57 : decide ((c : Int) ≤ 57) = false := decide_eq_false (by omega)
        have gne45 : ((c : Int) != 45) = true := by rw [bne_iff_ne]; omega
        have gq : ((c : Int) == 45) = false := by rw [beq_eq_false_iff_ne]; omega
        have hA : Hid (nameB s = false) := Lib.hid (nameB_false hlt (by
          unfold okAt plainN
          rw [C.out, decide_eq_false (show ¬ c = 45 by omega), Bool.and_false, Bool.or_false]
          simp
          omega))
        clear hx
        go_wp2
        go_ret
        exact ⟨by rw [hA.out]; rfl, rfl⟩
      · have gge97 : decide ((c : Int) ≥ 97) = true := decide_eq_true (by omega)
        have gle122 : decide ((c : Int) ≤ 122) = true := decide_eq_true (by omega)
        have hA : Hid (okAt s k = true) := Lib.hid (by unfold okAt plainN; rw [C.out]; simp [hx])
        clear hx
        go_wp2
        go_roundg (s.size - (k + 1))
        case measure => have := R.out.1; omega
        case rel => exact ⟨k + 1, by omega, rfl, by go_num, grow_ok R.out.2 hA.out, rfl⟩
      · have gge97 : decide ((c : Int) ≥ 97) = true := decide_eq_true (by omega)
        have gle122 : decide ((c : Int) ≤ 122) = false := decide_eq_false (by omega)
        have gge48 : decide ((c : Int) ≥ 48) = true := decide_eq_true (by omega)
        have gle57 : decide ((c : Int) ≤ 57) = false := decide_eq_false (by omega)
        have gne45 : ((c : Int) != 45) = true := by rw [bne_iff_ne]; omega
        have gq : ((c : Int) == 45) = false := by rw [beq_eq_false_iff_ne]; omega
        have hA : Hid (nameB s = false) := Lib.hid (nameB_false hlt (by
          unfold okAt plainN
          rw [C.out, decide_eq_false (show ¬ c = 45 by omega), Bool.and_false, Bool.or_false]
          simp
          omega))
        clear hx
        go_wp2
        go_ret
        exact ⟨by rw [hA.out]; rfl, rfl⟩
    · have hA : Hid (nameB s = true) := Lib.hid (nameB_true hp (by omega) fun i hi => R.out.2 i (by omega) hi)
      go_wp2
      go_ret
      exact ⟨by rw [hA.out]; rfl, rfl⟩
end Go.Proofs.YtfkoiehnkelpoaaDoor.L
