/-
  Number and Unnumber.
-/
import Derived.Test.YtnckmnmkolboiaaDoorBtw
import Derived.Laws.BitsAllLaws
namespace Go.Proofs.YtnckmnmkolboiaaDoor
open Go.RowKit
theorem num_head (k n : Nat) : num (k + 1) n = UInt8.ofNat (n / 256 ^ k) :: num k n := by
  induction k generalizing n with
  | zero => simp [num]
  | succ k ih =>
    rw [num, ih (n / 256), Nat.div_div_eq_div_mul, Nat.mul_comm, ← Nat.pow_succ]
    rfl
def rowN (k n : Nat) : List Value := List.replicate (8 - k) (.int .u8 0) ++ cells8 (num k n)
theorem rowN_length (k n : Nat) (h : k ≤ 8) : (rowN k n).length = 8 := by
  unfold rowN
  rw [List.length_append, List.length_replicate, cells8_length, num_length]; omega
theorem rowN_at (k n : Nat) (h : k < 8) : (rowN k n)[7 - k]? = some (.int .u8 0) := by
  unfold rowN
  rw [List.getElem?_append_left (by simp; omega), List.getElem?_replicate, if_pos (by omega)]
theorem rowN_set (k n : Nat) (h : k < 8) : (rowN k n).set (7 - k) (.int .u8 (c8 (UInt8.ofNat (n / 256 ^ k)))) = rowN (k + 1) n := by
  unfold rowN
  rw [show 8 - k = (7 - k) + 1 by omega, List.replicate_succ', List.append_assoc, List.set_append_right _ _ (by simp), num_head]
  simp [cells8, show 8 - (k + 1) = 7 - k by omega]
def RowAt (w : World) (g k n : Nat) : Prop := w.heap[g]? = some (.cells (rowN k n).toArray 45 (0, 0))
theorem RowAt.set {w : World} {g k n : Nat} (h : RowAt w g k n) (hk : k < 8) : RowAt (w.setCell ⟨g, 7 - k, none⟩ (.int .u8 (c8 (UInt8.ofNat (n / 256 ^ k))))) g (k + 1) n := by
  unfold RowAt at *
  rw [← rowN_set k n hk]
  simp [World.setCell, Array.getElem?_modify, h]
set_option maxHeartbeats 4000000 in
set_option maxRecDepth 100000 in
theorem number_up (n : Nat) (w : World) (hn : n < 9223372036854775808) :
    Calls Tryd.prog 10 #[.int .i64 n] w fun e w' => e = .returned (.tuple #[.string (txt (num 8 n)), .int .i64 0]) ∧ Below w.heap.size w w' := by
  have N := Lib.hid hn
  clear hn
  have g0 : decide ((n : Int) < 0) = false := decide_eq_false (by omega)
  go_enter Tryd.func10, Tryd.ntmps10
  go_wp2_with fail
  clear g0
  go_loopg [0, 5] 8 (fun g sn sa wr => ∃ (k : Nat), k ≤ 8 ∧ g = 8 - k ∧ sn = .int .i64 ((n / 256 ^ k : Nat) : Int) ∧ sa = .int .i64 (7 - (k : Int)) ∧ RowAt wr w.heap.size k n ∧ Below w.heap.size w wr)
  case atStart => exact ⟨0, by omega, rfl, by simp, rfl, heap_alloc_new w _, (Below.refl _ w).alloc (Nat.le_refl _) _⟩
  case round =>
    obtain ⟨k, hk, hg, rfl, rfl, hrow, hb⟩ := hrel
    have R : Aside (gk = 8 - k ∧ RowAt wr w.heap.size k n ∧ Below w.heap.size w wr) := ⟨hg, hrow, hb⟩
    obtain ⟨q, hq⟩ : ∃ q, q = n / 256 ^ k := ⟨_, rfl⟩
    rw [← hq]
    have Q := Lib.hid hq
    clear hg hb hq
    by_cases hlt : k < 8
    · have c0 : wr.cell? ⟨w.heap.size, 7 - k, none⟩ = some (.int .u8 0) := by
        rw [cell_of_row _ _ _ _ _ _ hrow]
        simpa using rowN_at k n hlt
      have f0 : wr.frozen? ⟨w.heap.size, 7 - k, none⟩ = false := frozen_of_row _ _ _ _ _ hrow
      clear hrow
      obtain ⟨m, hm⟩ : ∃ m, m = 7 - k := ⟨_, rfl⟩
      have em : (7 - (k : Int)) = (m : Int) := by omega
      rw [← hm] at c0 f0
      rw [em]
      have hm7 : m ≤ 7 := by omega
      have M := Lib.hid hm
      clear hm em
      go_wp2_with fail
      go_roundg (8 - (k + 1))
      case measure => have := R.out.1; omega
      case rel =>
        have e1 : ((q : Int) % 256) = c8 (UInt8.ofNat (n / 256 ^ k)) := by
          rw [← Q.out]
          unfold c8
          simp
        refine ⟨k + 1, by omega, rfl, ?_, ?_, ?_, R.out.2.2.setCell (p := ⟨w.heap.size, m, none⟩) (Nat.le_refl _) _⟩
        · rw [Nat.pow_succ, ← Nat.div_div_eq_div_mul, ← Q.out]
          rfl
        · have := M.out
          congr 1
          omega
        · rw [e1, M.out]
          exact R.out.2.1.set hlt
    · have ek : k = 8 := by omega
      subst ek
      have hcv : (convert 44 9 (.slice (some ⟨w.heap.size, 0, none⟩) 8 8)).run Tryd.prog wr = .ok (.string (txt (num 8 n))) wr := by
        refine convT ⟨_, 8, by rw [num_length], by rw [num_length]; omega, by decide, (fun h => by cases h), fun k hk => ⟨w.heap.size, 0, rfl, ?_⟩⟩
        rw [num_length] at hk
        rw [cell_of_row _ _ _ _ _ _ hrow, Nat.zero_add]
        have := cells8_at (l := num 8 n) (k := k) (by rw [num_length]; exact hk)
        simpa [rowN] using this
      clear hrow
      go_wp2_with fail
      go_ret2
      exact ⟨rfl, R.out.2.2⟩
set_option maxRecDepth 100000 in
theorem number_down (n : Int) (w : World) (hn : n < 0) :
    Calls Tryd.prog 10 #[.int .i64 n] w fun e w' => e = .returned (.tuple #[.string ⟨#[]⟩, .int .i64 1]) ∧ Below w.heap.size w w' := by
  have g0 : decide (n < 0) = true := decide_eq_true hn
  go_enter Tryd.func10, Tryd.ntmps10
  go_wp2_with fail
  go_ret2
  exact ⟨rfl, Below.refl _ _⟩
def unR (s : ByteArray) : Int × Int := if s.size = 8 ∧ (s.data.toList.getD 0 0).toNat ≤ 127 then ((val s.data.toList : Int), 0) else (0, 2)
theorem val_take (l : List UInt8) (k : Nat) (h : k < l.length) : val (l.take (k + 1)) = val (l.take k) * 256 + (l.getD k 0).toNat := by
  rw [take_one l k 0 h, val_app]
theorem val_low (l : List UInt8) (h : l.length ≤ 8) (h0 : (l.getD 0 0).toNat ≤ 127) (k : Nat) (hk : k < 8) : val (l.take k) < 36028797018963968 := by
  have h1 := val_lt (l.take k)
  have h2 : (l.take k).length ≤ 7 := by rw [List.length_take]; omega
  have h3 : 256 ^ (l.take k).length ≤ 256 ^ 7 := Nat.pow_le_pow_right (by omega) h2
  have h4 : (256 ^ 7 : Nat) = 72057594037927936 := by decide
  cases l with
  | nil => simp [val]
  | cons b l =>
    cases k with
    | zero => simp [val]
    | succ k =>
      rw [List.take_succ_cons, val]
      have h5 := val_lt (l.take k)
      have h6 : b.toNat ≤ 127 := by simpa using h0
      have h7 : (l.take k).length ≤ 6 := by rw [List.length_take]; omega
      have h8 : 256 ^ (l.take k).length ≤ 256 ^ 6 := Nat.pow_le_pow_right (by omega) h7
      have h9 : (256 ^ 6 : Nat) = 281474976710656 := by decide
      have h10 := Nat.mul_le_mul h6 h8
      omega
theorem w64_in (n : Int) (h : -9223372036854775808 ≤ n ∧ n ≤ 9223372036854775807) : wrap64 n = n := by unfold wrap64; omega
theorem i64_join (q b : Nat) (hq : q < 36028797018963968) (hb : b < 256) : bits .or .i64 ((q : Int) * 256) (wrap64 (b : Int)) = ((q * 256 + b : Nat) : Int) := by
  have hx : (q * 256) ||| b = q * 256 + b := nat_join 8 (q * 256) b (by omega) (by omega)
  rw [w64_in _ ⟨by omega, by omega⟩]
  have e : ((q : Int) * 256) = ((q * 256 : Nat) : Int) := by omega
  rw [e]
  show IntKind.i64.wrap ((BitVec.ofInt 64 ((q * 256 : Nat) : Int) ||| BitVec.ofInt 64 (b : Int)).toNat : Int) = _
  rw [BitVec.toNat_or, ofInt_u64 _ (by omega), ofInt_u64 b (by omega), hx]
  have h1 : q * 256 + b < 9223372036854775808 := by omega
  generalize q * 256 + b = x at *
  simp [IntKind.wrap, IntKind.bits, IntKind.signed]
  omega
set_option maxHeartbeats 4000000 in
set_option maxRecDepth 100000 in
theorem unnumber_any (s : ByteArray) (w : World) :
    Calls Tryd.prog 12 #[.string s] w fun e w' => e = .returned (.tuple #[.int .i64 (unR s).1, .int .i64 (unR s).2]) ∧ Below w.heap.size w w' := by
  by_cases h8 : s.size = 8
  · have hlt0 : 0 < s.size := by omega
    have g8 : ((s.size : Int) != 8) = false := by rw [h8]; rfl
    by_cases h0 : (s[0]'hlt0).toNat ≤ 127
    · have g0 : decide (((s[0]'hlt0).toNat : Int) > 127) = false := decide_eq_false (by omega)
      have hr : Hid (unR s = ((val s.data.toList : Int), 0)) := Lib.hid (by unfold unR; rw [if_pos ⟨h8, by rw [byte_getD s 0 hlt0]; exact h0⟩])
      have VL : Hid (∀ k, k < 8 → val (s.data.toList.take k) < 36028797018963968) := Lib.hid fun k hk => val_low _ (by rw [len_data]; omega) (by rw [byte_getD s 0 hlt0]; exact h0) k hk
      go_enter Tryd.func12, Tryd.ntmps12
      go_wp2_with fail
      clear g0 g8 h0
      go_loopg [4, 14] 8 (fun g sn sa wr => ∃ (k : Nat), k ≤ 8 ∧ g = 8 - k ∧ sn = .int .i64 (val (s.data.toList.take k) : Int) ∧ sa = .int .i64 k ∧ wr = w)
      case atStart => exact ⟨0, by omega, rfl, rfl, rfl, rfl⟩
      case round =>
        obtain ⟨k, hk, hg, rfl, rfl, rfl⟩ := hrel
        have R : Aside (gk = 8 - k) := hg
        clear hg
        by_cases hlt : k < 8
        · have hk8 : k < s.size := by omega
          have hv := VL.out k hlt
          have hs := val_take s.data.toList k (by rw [len_data]; omega)
          rw [byte_getD s k hk8] at hs
          obtain ⟨q, hq⟩ : ∃ q, q = val (s.data.toList.take k) := ⟨_, rfl⟩
          rw [← hq] at hv hs ⊢
          have S := Lib.hid hs
          clear hs hq
          have hlt' : (k : Int) < 8 := by omega
          go_wp2_with fail
          go_roundg (8 - (k + 1))
          case measure => have := R.out; omega
          case rel =>
            refine ⟨k + 1, by omega, rfl, ?_, by go_num, rfl⟩
            rw [S.out, i64_join q _ hv (UInt8.toNat_lt _)]
        · have ek : k = 8 := by omega
          subst ek
          have e : s.data.toList.take 8 = s.data.toList := List.take_of_length_le (by rw [len_data]; omega)
          rw [e]
          clear e
          go_wp2_with fail
          go_ret2
          exact ⟨by rw [hr.out]; rfl, Below.refl _ _⟩
    · have g0 : decide (((s[0]'hlt0).toNat : Int) > 127) = true := decide_eq_true (by omega)
      have hr : Hid (unR s = (0, 2)) := Lib.hid (by unfold unR; rw [if_neg (fun h => h0 (by have := h.2; rw [byte_getD s 0 hlt0] at this; exact this))])
      go_enter Tryd.func12, Tryd.ntmps12
      go_wp2_with fail
      go_ret2
      exact ⟨by rw [hr.out]; rfl, Below.refl _ _⟩
  · have g8 : ((s.size : Int) != 8) = true := by rw [bne_iff_ne]; omega
    have hr : Hid (unR s = (0, 2)) := Lib.hid (by unfold unR; rw [if_neg (fun h => h8 h.1)])
    go_enter Tryd.func12, Tryd.ntmps12
    go_wp2_with fail
    go_ret2
    exact ⟨by rw [hr.out]; rfl, Below.refl _ _⟩
end Go.Proofs.YtnckmnmkolboiaaDoor
