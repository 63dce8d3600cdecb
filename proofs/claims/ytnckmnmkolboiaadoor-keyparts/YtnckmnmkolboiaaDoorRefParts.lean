/-
  The document's Between, Number, Unnumber.
-/
import Derived.Test.YtnckmnmkolboiaaDoorNumb
import Derived.RegionTactic
import Derived.Deep.RegionLaw
import Derived.Laws.MakeOwn
namespace Go.Proofs.YtnckmnmkolboiaaDoor
open Go.RowKit
theorem txt_app' (l m : List UInt8) : txt l ++ txt m = txt (l ++ m) := by
  apply ByteArray.ext
  simp [txt]
theorem txt_take' (l : List UInt8) (k : Nat) : (txt l).extract 0 k = txt (l.take k) := by
  apply ByteArray.ext
  simp [txt, ByteArray.data_extract]
theorem conv_one_n (W : World) (m : Nat) (n : Int) (c : UInt8) (h : n = c8 c) : (convert 44 9 (.slice (some ⟨W.heap.size, 0, none⟩) 1 1)).run Tryd.prog ((W.drewN m).alloc (.cells #[.int .u8 n] 5)) = .ok (.string (txt [c])) ((W.drewN m).alloc (.cells #[.int .u8 n] 5)) := by
  subst h
  refine convT ⟨_, 1, rfl, by simp, by decide, (fun h => by cases h), fun k hk => ⟨W.heap.size, 0, rfl, ?_⟩⟩
  have : k = 0 := by simpa using hk
  subst this
  show ((W.drewN m).alloc (.cells #[.int .u8 (c8 c)] 5)).cell? ⟨(W.drewN m).heap.size, 0 + 0, none⟩ = _
  rw [World.cell?_alloc_new]
  rfl
theorem conv_one_d (W : World) (n : Int) (c : UInt8) (h : n = c8 c) : (convert 44 9 (.slice (some ⟨W.heap.size, 0, none⟩) 1 1)).run Tryd.prog (W.alloc (.cells #[.int .u8 n] 5)).drew = .ok (.string (txt [c])) (W.alloc (.cells #[.int .u8 n] 5)).drew := by
  subst h
  refine convT ⟨_, 1, rfl, by simp, by decide, (fun h => by cases h), fun k hk => ⟨W.heap.size, 0, rfl, ?_⟩⟩
  have : k = 0 := by simpa using hk
  subst this
  show (W.alloc (.cells #[.int .u8 (c8 c)] 5)).cell? ⟨W.heap.size, 0 + 0, none⟩ = _
  rw [World.cell?_alloc_new]
  rfl
set_option maxHeartbeats 8000000 in
set_option maxRecDepth 100000 in
theorem refBetween_any (a b : ByteArray) (w : World) (ha : a.size ≤ 140737488351232) :
    Calls Tryd.prog 9 #[.string a, .string b] w fun e w' => e = .returned (.tuple #[.string (btwR a b).1, .int .i64 (btwR a b).2]) ∧ Below w.heap.size w w' := by
  cases hl : bl a.data.toList b.data.toList with
  | false =>
    have g := less_form a b hl
    have hr : Hid (btwR a b = (⟨#[]⟩, 1)) := Lib.hid (by unfold btwR; rw [if_neg (by rw [hl]; simp)])
    clear hl
    go_enter Tryd.func9, Tryd.ntmps9
    go_wp2_with fail
    go_ret2
    exact ⟨by rw [hr.out]; rfl, Below.refl _ _⟩
  | true =>
    have g := less_form a b hl
    have HL := Lib.hid hl
    have hr : Hid (btwR a b = (txt (btw a.data.toList b.data.toList), 0)) := Lib.hid (by unfold btwR; rw [if_pos hl])
    clear hl
    go_enter Tryd.func9, Tryd.ntmps9
    go_wp2_with fail
    clear g
    go_loopg [6] a.size (fun g si wr => ∃ (k : Nat), k ≤ a.size ∧ k ≤ b.size ∧ g = a.size - k ∧ si = .int .i64 k ∧ a.data.toList.take k = b.data.toList.take k ∧ Below w.heap.size w wr)
    case atStart => exact ⟨0, Nat.zero_le _, Nat.zero_le _, rfl, rfl, rfl, Below.refl _ _⟩
    case round =>
      obtain ⟨k, hk, hk2, hg, rfl, hq, hbl⟩ := hrel
      have R : Hid (gk = a.size - k ∧ a.data.toList.take k = b.data.toList.take k ∧ Below w.heap.size w wr) := ⟨hg, hq, hbl⟩
      clear hg hq hbl
      have AT : Hid (k = a.data.toList.length ∨ k = b.data.toList.length ∨ a.data.toList.getD k 0 ≠ b.data.toList.getD k 0 → agr a.data.toList b.data.toList = k) := Lib.hid fun h =>
        agr_at _ _ k (by rw [len_data]; exact hk) (by rw [len_data]; exact hk2) R.out.2.1 h
      by_cases hlt : k < a.size
      · have g1 : decide ((k : Int) < (a.size : Int)) = true := decide_eq_true (by omega)
        have hlu : k < b.size := by
          rcases Nat.lt_or_ge k b.size with h | h
          · exact h
          · exfalso
            have e1 : b.data.toList.take k = b.data.toList := List.take_of_length_le (by rw [len_data]; exact h)
            have e2 : a.data.toList = b.data.toList ++ a.data.toList.drop k := by
              conv => lhs; rw [← List.take_append_drop k a.data.toList, R.out.2.1, e1]
            have h3 := HL.out
            rw [e2] at h3
            have h4 : bl (b.data.toList ++ a.data.toList.drop k) (b.data.toList ++ []) = bl (a.data.toList.drop k) [] := bl_app _ _ _
            rw [List.append_nil, bl_to_nil] at h4
            rw [h4] at h3
            cases h3
        by_cases e : (a[k]'hlt) = (b[k]'hlu)
        · have e1 : (((a[k]'hlt).toNat : Int) == ((b[k]'hlu).toNat : Int)) = true := by rw [e]; simp
          have E : Hid (a.data.toList.take (k + 1) = b.data.toList.take (k + 1)) := Lib.hid (by
            rw [take_one _ k 0 (by rw [len_data]; exact hlt), take_one _ k 0 (by rw [len_data]; exact hlu), R.out.2.1, byte_getD a k hlt, byte_getD b k hlu, e])
          clear e
          go_wp2_with fail
          go_quiet (fail)
          go_wp2_with fail
          go_roundg (a.size - (k + 1))
          case measure => have := R.out.1; omega
          case rel => exact ⟨k + 1, by omega, by omega, rfl, by go_num, E.out, R.out.2.2.trans ⟨rfl, rfl, rfl, Nat.le_refl _, fun _ _ => rfl⟩⟩
        · have e1 : (((a[k]'hlt).toNat : Int) == ((b[k]'hlu).toNat : Int)) = false := by
            rw [beq_eq_false_iff_ne]
            intro h
            exact e (UInt8.toNat_inj.1 (by omega))
          have hn := AT.out (.inr (.inr (by rw [byte_getD a k hlt, byte_getD b k hlu]; exact e)))
          obtain ⟨c, hc⟩ : ∃ c, c = (a[k]'hlt) + 1 := ⟨_, rfl⟩
          have hab : (a[k]'hlt).toNat < 255 := by
            have h1 : (a[k]'hlt) < (b[k]'hlu) := by
              have h3 := HL.out
              rw [show a.data.toList = a.data.toList.take k ++ a[k]'hlt :: a.data.toList.drop (k + 1) by rw [← byte_getD a k hlt, ← drop_at _ k 0 (by rw [len_data]; exact hlt), List.take_append_drop], show b.data.toList = b.data.toList.take k ++ b[k]'hlu :: b.data.toList.drop (k + 1) by rw [← byte_getD b k hlu, ← drop_at _ k 0 (by rw [len_data]; exact hlu), List.take_append_drop], R.out.2.1, bl_app, bl_cons, beq_eq_false_iff_ne.2 e, Bool.false_and, Bool.or_false, decide_eq_true_eq] at h3
              exact h3
            have h2 := UInt8.lt_iff_toNat_lt.1 h1
            have h3 := (b[k]'hlu).toNat_lt
            omega
          have c2 : (((a[k]'hlt).toNat : Int) + 1) = c8 c := by
            rw [hc]
            unfold c8
            rw [UInt8.toNat_add]
            have : (1 : UInt8).toNat = 1 := rfl
            rw [this]
            omega
          have hbt : Hid (a.extract 0 k ++ txt [c] = txt (btw a.data.toList b.data.toList)) := Lib.hid (by
            unfold btw
            rw [hn, if_pos (by rw [len_data]; exact hlt), byte_getD a k hlt, ← hc]
            have : a.extract 0 k = txt (a.data.toList.take k) := by rw [← txt_take', list_txt]
            rw [this, txt_app'])
          have n1 : ((k : Int) == (a.size : Int)) = false := by rw [beq_eq_false_iff_ne]; omega
          have tz : (a.extract 0 k).size = k := by simp; omega
          have oz : (txt [c]).size = 1 := rfl
          have hcv : ∀ m : Nat, (convert 44 9 (.slice (some ⟨wr.heap.size, 0, none⟩) 1 1)).run Tryd.prog ((wr.drewN m).alloc (.cells #[.int .u8 (((a[k]'hlt).toNat : Int) + 1)] 5)) = .ok (.string (txt [c])) ((wr.drewN m).alloc (.cells #[.int .u8 (((a[k]'hlt).toNat : Int) + 1)] 5)) := fun m => conv_one_n wr m _ c c2
          clear e hn hc c2
          go_wp2_with fail
          go_quiet (fail)
          go_wp2_with fail
          go_region
          go_wp2_with fail
          go_ret2
          exact ⟨by rw [hr.out, ← hbt.out]; rfl, R.out.2.2.trans ((⟨rfl, rfl, rfl, Nat.le_refl _, fun _ _ => rfl⟩ : Below w.heap.size wr (wr.drewN _)).alloc R.out.2.2.size _)⟩
      · have g1 : decide ((k : Int) < (a.size : Int)) = false := decide_eq_false (by omega)
        have hn := AT.out (.inl (by rw [len_data]; omega))
        have ek : k = a.size := by omega
        have n1 : ((k : Int) == (a.size : Int)) = true := by rw [ek]; simp
        have hbt : Hid (a ++ ⟨#[0]⟩ = txt (btw a.data.toList b.data.toList)) := Lib.hid (by
          unfold btw
          rw [hn, if_neg (by rw [len_data]; exact hlt), List.take_of_length_le (by rw [len_data]; omega)]
          have : a = txt a.data.toList := (list_txt a).symm
          conv => lhs; rw [this]
          exact txt_app' _ _)
        have oz : (⟨#[0]⟩ : ByteArray).size = 1 := rfl
        clear hn ek
        go_wp2_with fail
        go_quiet (fail)
        go_wp2_with fail
        go_ret2
        exact ⟨by rw [hr.out, ← hbt.out]; rfl, R.out.2.2.trans ⟨rfl, rfl, rfl, Nat.le_refl _, fun _ _ => rfl⟩⟩
def RowS (w : World) (g k n : Nat) : Prop := w.heap[g]? = some (.cells (rowN k n).toArray 5 (0, 0))
theorem RowS.set {w : World} {g k n : Nat} (h : RowS w g k n) (hk : k < 8) : RowS (w.setCell ⟨g, 7 - k, none⟩ (.int .u8 (c8 (UInt8.ofNat (n / 256 ^ k))))) g (k + 1) n := by
  unfold RowS at *
  rw [← rowN_set k n hk]
  simp [World.setCell, Array.getElem?_modify, h]
theorem info_b8 : (Tryd.prog.info? 5).map (fun i => (i.zero, i.size, i.bytes)) = some (some (.int .u8 0), 1, 1) := by kernel_rfl
theorem made_8 (n : Nat) : madeCells (Value.int .u8 0).cells 8 = (rowN 0 n).toArray := by kernel_rfl
theorem make_8 (n : Nat) (w : World) : (Instr.makeSlice 44 (.int .i64 8) (.int .i64 8)).run Tryd.prog w = .ok (.slice (some ⟨w.heap.size, 0, none⟩) 8 8) (w.alloc (.cells (rowN 0 n).toArray 5)) := by
  obtain ⟨i0, hi, hz0, hz1, hz2⟩ := info_parts info_b8
  have h := run_make (P := Tryd.prog) w 44 5 i0 _ Tryd.underlying44 hi hz0 .i64 .i64 8 8 (by omega) (by omega) (by rw [hz2]; omega) (by omega)
  rw [hz1] at h
  rw [← made_8]
  exact h
set_option maxHeartbeats 4000000 in
set_option maxRecDepth 100000 in
theorem refNumber_up (n : Nat) (w : World) (hn : n < 9223372036854775808) :
    Calls Tryd.prog 11 #[.int .i64 n] w fun e w' => e = .returned (.tuple #[.string (txt (num 8 n)), .int .i64 0]) ∧ Below w.heap.size w w' := by
  have N := Lib.hid hn
  clear hn
  have g0 : decide ((n : Int) < 0) = false := decide_eq_false (by omega)
  have mk := make_8 n w
  go_enter Tryd.func11, Tryd.ntmps11
  go_wp2_with fail
  clear g0 mk
  go_loopg [0, 5] 8 (fun g sn sa wr => ∃ (k : Nat), k ≤ 8 ∧ g = 8 - k ∧ sn = .int .i64 ((n / 256 ^ k : Nat) : Int) ∧ sa = .int .i64 (7 - (k : Int)) ∧ RowS wr w.heap.size k n ∧ Below w.heap.size w wr)
  case atStart => exact ⟨0, by omega, rfl, by simp, rfl, heap_alloc_new w _, (Below.refl _ w).alloc (Nat.le_refl _) _⟩
  case round =>
    obtain ⟨k, hk, hg, rfl, rfl, hrow, hb⟩ := hrel
    have R : Aside (gk = 8 - k ∧ RowS wr w.heap.size k n ∧ Below w.heap.size w wr) := ⟨hg, hrow, hb⟩
    obtain ⟨q, hq⟩ : ∃ q, q = n / 256 ^ k := ⟨_, rfl⟩
    rw [← hq]
    have Q := Lib.hid hq
    have q63 : q < 9223372036854775808 := by rw [hq]; exact Nat.lt_of_le_of_lt (Nat.div_le_self _ _) N.out
    clear hg hb hq
    by_cases hlt : k < 8
    · have c0 : wr.cell? ⟨w.heap.size, 7 - k, none⟩ = some (.int .u8 0) := by
        rw [cell_of_row _ _ _ _ _ _ hrow]
        simpa using rowN_at k n hlt
      have f0 : wr.frozen? ⟨w.heap.size, 7 - k, none⟩ = false := frozen_of_row _ _ _ _ _ hrow
      clear hrow
      obtain ⟨m, hm⟩ : ∃ m, m = 7 - k := ⟨_, rfl⟩
      have em : (7 - (k : Int)) = (m : Int) := by omega
      rw [← hm] at c0 f0
      rw [em]
      have hm7 : m ≤ 7 := by omega
      have M := Lib.hid hm
      clear hm em
      go_wp2_with fail
      go_roundg (8 - (k + 1))
      case measure => have := R.out.1; omega
      case rel =>
        have e1 : ((q : Int) % 256) = c8 (UInt8.ofNat (n / 256 ^ k)) := by
          rw [← Q.out]
          unfold c8
          simp
        refine ⟨k + 1, by omega, rfl, ?_, ?_, ?_, R.out.2.2.setCell (p := ⟨w.heap.size, m, none⟩) (Nat.le_refl _) _⟩
        · rw [Nat.pow_succ, ← Nat.div_div_eq_div_mul, ← Q.out]
          rfl
        · have := M.out
          congr 1
          omega
        · rw [e1, M.out]
          exact R.out.2.1.set hlt
    · have ek : k = 8 := by omega
      subst ek
      have hcv : (convert 44 9 (.slice (some ⟨w.heap.size, 0, none⟩) 8 8)).run Tryd.prog wr = .ok (.string (txt (num 8 n))) wr := by
        refine convT ⟨_, 8, by rw [num_length], by rw [num_length]; omega, by decide, (fun h => by cases h), fun k hk => ⟨w.heap.size, 0, rfl, ?_⟩⟩
        rw [num_length] at hk
        rw [cell_of_row _ _ _ _ _ _ hrow, Nat.zero_add]
        have := cells8_at (l := num 8 n) (k := k) (by rw [num_length]; exact hk)
        simpa [rowN] using this
      clear hrow
      go_wp2_with fail
      go_ret2
      exact ⟨rfl, R.out.2.2⟩
set_option maxRecDepth 100000 in
theorem refNumber_down (n : Int) (w : World) (hn : n < 0) :
    Calls Tryd.prog 11 #[.int .i64 n] w fun e w' => e = .returned (.tuple #[.string ⟨#[]⟩, .int .i64 1]) ∧ Below w.heap.size w w' := by
  have g0 : decide (n < 0) = true := decide_eq_true hn
  go_enter Tryd.func11, Tryd.ntmps11
  go_wp2_with fail
  go_ret2
  exact ⟨rfl, Below.refl _ _⟩
set_option maxHeartbeats 4000000 in
set_option maxRecDepth 100000 in
theorem refUnnumber_any (s : ByteArray) (w : World) :
    Calls Tryd.prog 13 #[.string s] w fun e w' => e = .returned (.tuple #[.int .i64 (unR s).1, .int .i64 (unR s).2]) ∧ Below w.heap.size w w' := by
  by_cases h8 : s.size = 8
  · have hlt0 : 0 < s.size := by omega
    have g8 : ((s.size : Int) != 8) = false := by rw [h8]; rfl
    by_cases h0 : (s[0]'hlt0).toNat ≤ 127
    · have g0 : decide (((s[0]'hlt0).toNat : Int) > 127) = false := decide_eq_false (by omega)
      have hr : Hid (unR s = ((val s.data.toList : Int), 0)) := Lib.hid (by unfold unR; rw [if_pos ⟨h8, by rw [byte_getD s 0 hlt0]; exact h0⟩])
      have VL : Hid (∀ k, k < 8 → val (s.data.toList.take k) < 36028797018963968) := Lib.hid fun k hk => val_low _ (by rw [len_data]; omega) (by rw [byte_getD s 0 hlt0]; exact h0) k hk
      go_enter Tryd.func13, Tryd.ntmps13
      go_wp2_with fail
      clear g0 g8 h0
      go_loopg [4, 5] 8 (fun g sn sa wr => ∃ (k : Nat), k ≤ 8 ∧ g = 8 - k ∧ sn = .int .i64 (val (s.data.toList.take k) : Int) ∧ sa = .int .i64 k ∧ wr = w)
      case atStart => exact ⟨0, by omega, rfl, rfl, rfl, rfl⟩
      case round =>
        obtain ⟨k, hk, hg, rfl, rfl, rfl⟩ := hrel
        have R : Aside (gk = 8 - k) := hg
        clear hg
        by_cases hlt : k < 8
        · have hk8 : k < s.size := by omega
          have hv := VL.out k hlt
          have hs := val_take s.data.toList k (by rw [len_data]; omega)
          rw [byte_getD s k hk8] at hs
          obtain ⟨q, hq⟩ : ∃ q, q = val (s.data.toList.take k) := ⟨_, rfl⟩
          rw [← hq] at hv hs ⊢
          have S := Lib.hid hs
          clear hs hq
          have hlt' : (k : Int) < 8 := by omega
          go_wp2_with fail
          go_roundg (8 - (k + 1))
          case measure => have := R.out; omega
          case rel =>
            refine ⟨k + 1, by omega, rfl, ?_, by go_num, rfl⟩
            have b8 := (s[k]'hk8).toNat_lt
            rw [S.out, w64_in ((s[k]'hk8).toNat : Int) ⟨by omega, by omega⟩, w64_in _ ⟨by omega, by omega⟩]
            rfl
        · have ek : k = 8 := by omega
          subst ek
          have e : s.data.toList.take 8 = s.data.toList := List.take_of_length_le (by rw [len_data]; omega)
          rw [e]
          clear e
          go_wp2_with fail
          go_ret2
          exact ⟨by rw [hr.out]; rfl, Below.refl _ _⟩
    · have g0 : decide (((s[0]'hlt0).toNat : Int) > 127) = true := decide_eq_true (by omega)
      have hr : Hid (unR s = (0, 2)) := Lib.hid (by unfold unR; rw [if_neg (fun h => h0 (by have := h.2; rw [byte_getD s 0 hlt0] at this; exact this))])
      go_enter Tryd.func13, Tryd.ntmps13
      go_wp2_with fail
      go_ret2
      exact ⟨by rw [hr.out]; rfl, Below.refl _ _⟩
  · have g8 : ((s.size : Int) != 8) = true := by rw [bne_iff_ne]; omega
    have hr : Hid (unR s = (0, 2)) := Lib.hid (by unfold unR; rw [if_neg (fun h => h8 h.1)])
    go_enter Tryd.func13, Tryd.ntmps13
    go_wp2_with fail
    go_ret2
    exact ⟨by rw [hr.out]; rfl, Below.refl _ _⟩
end Go.Proofs.YtnckmnmkolboiaaDoor
