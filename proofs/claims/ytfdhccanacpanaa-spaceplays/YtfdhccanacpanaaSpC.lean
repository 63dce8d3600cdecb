/-
  settle, Commit, Back; Index, Contains, those, Taken, Held.
-/
import Derived.Test.YtfdhccanacpanaaSpA
namespace Go.Proofs.Ytfdhccanacpanaa
open Go.RowKit
variable {B : Nat} {w : World} {d sb f : Nat} {l : List UInt8}
/-- The first k are settled. -/
def stlK (a b : UInt8) (l : List UInt8) (k : Nat) : List UInt8 := stlR a b (l.take k) ++ l.drop k
theorem stlK_zero (a b : UInt8) (l : List UInt8) : stlK a b l 0 = l := by simp [stlK, stlR]
theorem stlK_all (a b : UInt8) (l : List UInt8) : stlK a b l l.length = stlR a b l := by simp [stlK]
theorem stlK_len (a b : UInt8) (l : List UInt8) (k : Nat) : (stlK a b l k).length = l.length := by simp [stlK, stlR]; omega
theorem stlK_at (a b : UInt8) (l : List UInt8) (k : Nat) (x : UInt8) (hx : l[k]? = some x) : (stlK a b l k)[k]? = some x := by
  have hk := (List.getElem?_eq_some_iff.1 hx).1
  have e : (stlR a b (l.take k)).length = k := by rw [stlR_length, List.length_take]; omega
  unfold stlK
  rw [List.getElem?_append_right (by omega), e, Nat.sub_self, List.getElem?_drop, Nat.add_zero, hx]
theorem stlK_set (a b : UInt8) (l : List UInt8) (k : Nat) (x : UInt8) (hx : l[k]? = some x) : (stlK a b l k).set k (stlS a b x) = stlK a b l (k + 1) := by
  have hk := (List.getElem?_eq_some_iff.1 hx).1
  have e : (stlR a b (l.take k)).length = k := by rw [stlR_length, List.length_take]; omega
  have e2 : l.drop k = x :: l.drop (k + 1) := by
    rw [List.drop_eq_getElem_cons hk]
    congr 1
    rw [List.getElem?_eq_getElem hk] at hx
    simpa using hx
  unfold stlK
  rw [List.set_append_right _ _ (by omega), e, Nat.sub_self, e2, List.set_cons_zero, List.take_add_one, hx, Option.toList_some]
  unfold stlR
  rw [List.map_append, List.map_cons, List.map_nil, List.append_assoc]; rfl
theorem stlK_same (a b : UInt8) (l : List UInt8) (k : Nat) (x : UInt8) (hx : l[k]? = some x) (h : stlS a b x = x) : stlK a b l (k + 1) = stlK a b l k := by
  rw [← stlK_set a b l k x hx, h]
  have h2 := stlK_at a b l k x hx
  have hk := (List.getElem?_eq_some_iff.1 h2).1
  apply List.ext_getElem?
  intro j
  by_cases e : k = j
  · subst e; rw [List.getElem?_set_self hk, h2]
  · rw [List.getElem?_set_ne e]
set_option maxHeartbeats 1000000 in
theorem settle_any (h : Sp B w d sb f l) (a b : UInt8) (ha : a = 0 ∨ a = 1 ∨ a = 2 ∨ a = 3) (hb : b = 0 ∨ b = 1 ∨ b = 2 ∨ b = 3) (a8 b8 : Int) (ea : a8 = c8 a) (eb : b8 = c8 b) :
    Calls Try.prog 26 #[.pointer (some ⟨d, 0, none⟩), .int .u8 a8, .int .u8 b8] w fun e w' => e = .returned (.tuple #[]) ∧ Sp B w' d sb f (stlR a b l) ∧ Kept (fun k => k = sb) w w' := by
  have p1 := h.c1
  have H := Lib.hid h
  obtain ⟨N, hN⟩ : ∃ N, N = l.length := ⟨_, rfl⟩
  rw [← hN] at p1
  have h2 : N ≤ 4096 := by rw [hN]; exact h.len
  have NN := Lib.hid hN
  have EA := Lib.hid ea
  have EB := Lib.hid eb
  clear h hN ea eb
  go_enter Try.func26, Try.ntmps26
  go_wp2_with fail
  clear p1
  go_loopg [12] N (fun g si wr => ∃ (k : Nat), k ≤ N ∧ g = N - k ∧ si = .int .i64 k ∧ Sp B wr d sb f (stlK a b l k) ∧ Kept (fun k => k = sb) w wr)
  case atStart => exact ⟨0, Nat.zero_le _, rfl, rfl, by rw [stlK_zero]; exact H.out, Kept.refl _ _⟩
  case round =>
    obtain ⟨k, hk, hg, rfl, hs, hkp⟩ := hrel
    have S := Lib.hid hs
    have K := Lib.hid hkp
    have G := Lib.hid hg
    have p1 := hs.c1
    rw [stlK_len, ← NN.out] at p1
    clear hs hkp hg
    by_cases hlt : k < N
    · have hlt' : (k : Int) < (N : Int) := by omega
      obtain ⟨x, hx⟩ : ∃ x, l[k]? = some x := ⟨_, List.getElem?_eq_getElem (by rw [← NN.out]; exact hlt)⟩
      have c1 := S.out.at k x (stlK_at a b l k x hx)
      have c2 := S.out.free k
      have X := Lib.hid hx
      obtain ⟨n8, h8⟩ : ∃ n8, n8 = c8 x := ⟨_, rfl⟩
      rw [← h8] at c1
      clear hx
      by_cases x1 : x = 1
      · have g1 : (n8 == 1) = true := by rw [h8, x1]; rfl
        clear h8
        go_wp2_with fail
        go_roundg (N - (k + 1))
        case measure => have := G.out; omega
        case rel =>
          refine ⟨k + 1, by omega, rfl, by go_num, ?_, Kept.trans (G := fun j => j = sb) K.out (kept_set _ _ _ rfl) fun _ _ h => h⟩
          rw [← stlK_set a b l k x X.out]
          have e : stlS a b x = a := by unfold stlS; rw [if_pos x1]
          rw [e]
          exact S.out.set k a a8 EA.out ha
      · have g1 : (n8 == 1) = false := by rw [h8, show (1 : Int) = c8 1 from rfl, c8_beq]; exact decide_eq_false x1
        by_cases x2 : x = 3
        · have g2 : (n8 == 3) = true := by rw [h8, x2]; rfl
          clear h8
          go_wp2_with fail
          go_roundg (N - (k + 1))
          case measure => have := G.out; omega
          case rel =>
            refine ⟨k + 1, by omega, rfl, by go_num, ?_, Kept.trans (G := fun j => j = sb) K.out (kept_set _ _ _ rfl) fun _ _ h => h⟩
            rw [← stlK_set a b l k x X.out]
            have e : stlS a b x = b := by unfold stlS; rw [if_neg x1, if_pos x2]
            rw [e]
            exact S.out.set k b b8 EB.out hb
        · have g2 : (n8 == 3) = false := by rw [h8, show (3 : Int) = c8 3 from rfl, c8_beq]; exact decide_eq_false x2
          clear h8
          go_wp2_with fail
          go_roundg (N - (k + 1))
          case measure => have := G.out; omega
          case rel =>
            refine ⟨k + 1, by omega, rfl, by go_num, ?_, K.out⟩
            rw [stlK_same a b l k x X.out (by unfold stlS; rw [if_neg x1, if_neg x2])]
            exact S.out
    · have hge : ¬ (k : Int) < (N : Int) := by omega
      have EK : Hid (k = l.length) := Lib.hid (by rw [← NN.out]; omega)
      go_wp2_with fail
      first | go_end0 | refine bodyPost_ret (results_none rfl _ _ _) rfl ?_
      have := S.out
      rw [EK.out, stlK_all] at this
      exact ⟨rfl, this, K.out⟩
theorem commit_any (h : Sp B w d sb f l) : Calls Try.prog 16 #[.pointer (some ⟨d, 0, none⟩)] w fun e w' => e = .returned (.tuple #[]) ∧ Sp B w' d sb f (stlR 2 0 l) ∧ Kept (fun k => k = sb) w w' := by
  have H := Lib.hid h
  clear h
  go_enter Try.func16, Try.ntmps16
  go_wp2_with fail
  refine (settle_any H.out 2 0 (by simp) (by simp) 2 0 rfl rfl).mono ?_
  rintro _ w' ⟨rfl, h1, h2⟩
  have R := Lib.hid (And.intro h1 h2)
  clear h1 h2
  go_wp2_with fail
  first | go_end0 | refine bodyPost_ret (results_none rfl _ _ _) rfl ?_
  exact ⟨rfl, R.out⟩
theorem back_any (h : Sp B w d sb f l) : Calls Try.prog 19 #[.pointer (some ⟨d, 0, none⟩)] w fun e w' => e = .returned (.tuple #[]) ∧ Sp B w' d sb f (stlR 0 2 l) ∧ Kept (fun k => k = sb) w w' := by
  have H := Lib.hid h
  clear h
  go_enter Try.func19, Try.ntmps19
  go_wp2_with fail
  refine (settle_any H.out 0 2 (by simp) (by simp) 0 2 rfl rfl).mono ?_
  rintro _ w' ⟨rfl, h1, h2⟩
  have R := Lib.hid (And.intro h1 h2)
  clear h1 h2
  go_wp2_with fail
  first | go_end0 | refine bodyPost_ret (results_none rfl _ _ _) rfl ?_
  exact ⟨rfl, R.out⟩
end Go.Proofs.Ytfdhccanacpanaa
