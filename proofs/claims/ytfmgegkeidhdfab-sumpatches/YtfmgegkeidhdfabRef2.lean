/-
  THE WALKS of the documents answer: Update, times, zeros, Join.
-/
import Derived.Test.YtfmgegkeidhdfabRef1
namespace Go.Proofs.Ytfmgegkeidhdfab
open Go.RowKit

theorem rover_eq {n : Int} {x : BitVec 32} (hn : n = u x) (v : Value) (l : List (BitVec 8)) (w : World) (hv : Bytes w v l) :
    Calls Try.prog 29 #[.int .u32 n, v] w fun e w' => e = .returned (.int .u32 (u (over x l))) ∧ w' = w := by
  rw [hn]; exact rover_any x v l w hv

set_option maxHeartbeats 400000 in
theorem rupdate_any (x : BitVec 32) (v : Value) (l : List (BitVec 8)) (w : World) (hv : Bytes w v l) :
    Calls Try.prog 22 #[.int .u32 (u x), v] w fun e w' => e = .returned (.int .u32 (u (upd x l))) ∧ w' = w := by
  go_enter Try.func22, Try.ntmps22
  go_wp2_with (go_at_call 29; refine (rover_eq (u_not' x) v l _ hv).mono ?_; rintro e w' ⟨rfl, rfl⟩)
  go_ret
  exact ⟨ret_int (u_not' _), rfl⟩

set_option maxHeartbeats 400000 in
theorem rtimes_any (x y : BitVec 32) (w : World) :
    Calls Try.prog 32 #[.int .u32 (u x), .int .u32 (u y)] w fun e w' => e = .returned (.int .u32 (u (tmN 32 x y))) ∧ w' = w := by
  go_enter Try.func32, Try.ntmps32
  go_wp2
  go_loopg [0, 1, 5, 6] 32 (fun k sa sb sp si wr => ∃ (a b p : BitVec 32) (i : Nat), i ≤ 32 ∧ k = 32 - i ∧ si = .int .i64 i ∧ sa = .int .u32 (u a) ∧ sb = .int .u32 (u b) ∧ sp = .int .u32 (u p) ∧ p ^^^ tmN k a b = tmN 32 x y ∧ wr = w)
  case atStart => exact ⟨x, y, 0#32, 0, by omega, rfl, rfl, rfl, rfl, rfl, by simp, rfl⟩
  case round =>
    obtain ⟨a, b, p, i, hi, hk, rfl, rfl, rfl, rfl, hp, rfl⟩ := hrel
    have A : Aside (gk = 32 - i ∧ p ^^^ tmN gk a b = tmN 32 x y) := ⟨hk, hp⟩
    clear hk hp
    have T : Aside (decide ((2147483648 : Int) ≤ u a) = a.getLsbD 31) := u_top a
    by_cases hlt : i < 32
    · by_cases ht : (2147483648 : Int) ≤ u a
      · have h2 : a.getLsbD 31 = true := by rw [← T.out]; simpa using ht
        have H2 : Aside (a.getLsbD 31 = true) := h2
        clear h2 T
        go_wp2_with (go_at_call 33; refine (rstep_any _ _).mono ?_; rintro e w' ⟨rfl, rfl⟩)
        obtain ⟨hk, hp⟩ := A.out
        obtain ⟨k, rfl⟩ : ∃ k, gk = k + 1 := ⟨31 - i, by omega⟩
        go_roundg k
        case measure => omega
        case rel => exact ⟨a <<< 1, sh b, p ^^^ b, i + 1, by omega, by omega, by go_num, by rw [u_dbl], rfl, by rw [bits_xor_u], tm_yes hp H2.out, rfl⟩
      · have h2 : a.getLsbD 31 = false := by rw [← T.out]; simpa using ht
        have H2 : Aside (a.getLsbD 31 = false) := h2
        clear h2 T
        go_wp2_with (go_at_call 33; refine (rstep_any _ _).mono ?_; rintro e w' ⟨rfl, rfl⟩)
        obtain ⟨hk, hp⟩ := A.out
        obtain ⟨k, rfl⟩ : ∃ k, gk = k + 1 := ⟨31 - i, by omega⟩
        go_roundg k
        case measure => omega
        case rel => exact ⟨a <<< 1, sh b, p, i + 1, by omega, by omega, by go_num, by rw [u_dbl], rfl, rfl, tm_no hp H2.out, rfl⟩
    · clear T
      go_wp2
      obtain ⟨hk, hp⟩ := A.out
      obtain rfl : gk = 0 := by omega
      go_ret
      exact ⟨ret_int (by rw [← hp]; simp [tmN]), rfl⟩

set_option maxHeartbeats 400000 in
theorem rzeros_any (x : BitVec 32) (n : Nat) (hn : n < 9223372036854775808) (w : World) :
    Calls Try.prog 28 #[.int .u32 (u x), .int .i64 n] w fun e w' => e = .returned (.int .u32 (u (shN (8 * n) x))) ∧ w' = w := by
  go_enter Try.func28, Try.ntmps28
  go_wp2
  go_loopg [0, 1, 5] n (fun k sv sn sp wr => ∃ (v : BitVec 32) (q : Nat), k ≤ n ∧ sv = .int .u32 (u v) ∧ sn = .int .i64 k ∧ sp = .int .u32 (u (pw q)) ∧ shN (q * k) v = shN (8 * n) x ∧ wr = w)
  case atStart => exact ⟨x, 8, Nat.le_refl _, rfl, rfl, by rw [pw8]; rfl, rfl, rfl⟩
  case round =>
    obtain ⟨v, q, hk, rfl, rfl, rfl, hv, rfl⟩ := hrel
    have A : Aside (shN (q * gk) v = shN (8 * n) x) := hv
    clear hv
    by_cases hp : 0 < gk
    · by_cases ho : gk % 2 = 1
      · have ho' : ((gk : Int) % 2 == 1) = true := by simp; omega
        go_wp2_with (go_at_call 32; refine (rtimes_any _ _ _).mono ?_; rintro e w' ⟨rfl, rfl⟩)
        go_roundg (gk / 2)
        case measure => omega
        case rel => exact ⟨shN q v, q + q, by omega, by rw [tm_pw], by go_num, by rw [tm_sq], ca_yes A.out ho, rfl⟩
      · have ho' : ((gk : Int) % 2 == 1) = false := by simp; omega
        go_wp2_with (go_at_call 32; refine (rtimes_any _ _ _).mono ?_; rintro e w' ⟨rfl, rfl⟩)
        go_roundg (gk / 2)
        case measure => omega
        case rel => exact ⟨v, q + q, by omega, rfl, by go_num, by rw [tm_sq], ca_no A.out (by omega), rfl⟩
    · go_wp2
      have h1 : gk = 0 := by omega
      have h2 := A.out
      rw [h1] at h2
      go_ret
      exact ⟨ret_int (by rw [← h2]; rfl), rfl⟩

set_option maxHeartbeats 400000 in
theorem rjoin_any (x y : BitVec 32) (n : Nat) (hn : n ≤ 1099511627776) (w : World) :
    Calls Try.prog 24 #[.int .u32 (u x), .int .u32 (u y), .int .i64 n] w fun e w' => e = .returned (.tuple #[.int .u32 (u (shN (8 * n) x ^^^ y)), .int .i64 0]) ∧ w' = w := by
  go_enter Try.func24, Try.ntmps24
  go_wp2_with (go_at_call 28; refine (rzeros_any _ _ (by omega) _).mono ?_; rintro e w' ⟨rfl, rfl⟩)
  go_ret2
  exact ⟨by rw [bits_xor_u]; rfl, rfl⟩

set_option maxHeartbeats 400000 in
theorem rjoin_arg (x y : BitVec 32) (n : Int) (hn : n < 0 ∨ 1099511627776 < n) (w : World) :
    Calls Try.prog 24 #[.int .u32 (u x), .int .u32 (u y), .int .i64 n] w fun e w' => e = .returned (.tuple #[.int .u32 0, .int .i64 1]) ∧ w' = w := by
  by_cases h : n < 0
  · go_enter Try.func24, Try.ntmps24
    go_wp2
    go_ret2
    exact ⟨rfl, rfl⟩
  · have h' : 1099511627776 < n := by omega
    clear hn
    go_enter Try.func24, Try.ntmps24
    go_wp2
    go_ret2
    exact ⟨rfl, rfl⟩
end Go.Proofs.Ytfmgegkeidhdfab
