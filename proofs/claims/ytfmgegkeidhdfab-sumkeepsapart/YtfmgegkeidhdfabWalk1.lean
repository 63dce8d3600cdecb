/-
  THE WALKS of package sum: shift, times, carry, Join.
-/
import Derived.Test.YtfmgegkeidhdfabRows
import Derived.Test.YtfmgegkeidhdfabMath
import Derived.WalkKit
import Derived.WalkSpells
import Derived.WalkLawsBesides
import Derived.Deep.LoopGhost
namespace Go.Proofs.Ytfmgegkeidhdfab
open Go.RowKit

theorem ret_int {k : IntKind} {a b : Int} (h : a = b) : Ending.returned (.int k a) = .returned (.int k b) := by rw [h]

set_option maxHeartbeats 400000 in
theorem shift_any (x : BitVec 32) (w : World) :
    Calls Try.prog 30 #[.int .u32 (u x)] w fun e w' => e = .returned (.int .u32 (u (sh x))) ∧ w' = w := by
  go_enter Try.func30, Try.ntmps30
  have hh := u_and1 x
  have H : Hid ((bits .and .u32 (u x) 1 != 0) = x.getLsbD 0) := hh
  clear hh
  go_wp2
  · have h := H.out
    rw [‹(bits BinOp.and IntKind.u32 (u x) 1 != 0) = true›] at h
    go_ret
    exact ⟨ret_int (by unfold sh; rw [← h, if_pos rfl, u_over]), rfl⟩
  · have h := H.out
    rw [‹(bits BinOp.and IntKind.u32 (u x) 1 != 0) = false›] at h
    go_ret
    exact ⟨ret_int (by unfold sh; rw [← h, if_neg (by simp), u_half]), rfl⟩

set_option maxHeartbeats 400000 in
theorem times_any (x y : BitVec 32) (w : World) :
    Calls Try.prog 31 #[.int .u32 (u x), .int .u32 (u y)] w fun e w' => e = .returned (.int .u32 (u (tmN 32 x y))) ∧ w' = w := by
  go_enter Try.func31, Try.ntmps31
  go_wp2
  go_loopg [0, 1, 5] 32 (fun k sa sb sp wr => ∃ a b p : BitVec 32, sa = .int .u32 (u a) ∧ sb = .int .u32 (u b) ∧ sp = .int .u32 (u p) ∧ p ^^^ tmN k a b = tmN 32 x y ∧ a <<< k = 0#32 ∧ wr = w)
  case atStart => exact ⟨x, y, 0#32, rfl, rfl, rfl, by simp, by simp, rfl⟩
  case round =>
    obtain ⟨a, b, p, rfl, rfl, rfl, hp, hk, rfl⟩ := hrel
    have A : Aside (p ^^^ tmN gk a b = tmN 32 x y ∧ a <<< gk = 0#32) := ⟨hp, hk⟩
    clear hp hk
    go_wp2_with (go_at_call 30; refine (shift_any _ _).mono ?_; rintro e w' ⟨rfl, rfl⟩)
    · obtain ⟨hp, hk⟩ := A.out
      have h1 := ‹(u a != 0) = true›
      have h2 := ‹(bits BinOp.and IntKind.u32 (u a) 2147483648 != 0) = true›
      rw [u_ne0] at h1; rw [u_and31] at h2
      match gk, hp, hk with
      | 0, hp, hk => simp at hk; subst hk; simp at h1
      | k + 1, hp, hk =>
        go_roundg k
        case measure => omega
        case rel => exact ⟨a <<< 1, sh b, p ^^^ b, by rw [u_dbl], rfl, by rw [bits_xor_u], tm_yes hp h2, tm_left hk, rfl⟩
    · obtain ⟨hp, hk⟩ := A.out
      have h1 := ‹(u a != 0) = true›
      have h2 := ‹(bits BinOp.and IntKind.u32 (u a) 2147483648 != 0) = false›
      rw [u_ne0] at h1; rw [u_and31] at h2
      match gk, hp, hk with
      | 0, hp, hk => simp at hk; subst hk; simp at h1
      | k + 1, hp, hk =>
        go_roundg k
        case measure => omega
        case rel => exact ⟨a <<< 1, sh b, p, by rw [u_dbl], rfl, rfl, tm_no hp h2, tm_left hk, rfl⟩
    · obtain ⟨hp, hk⟩ := A.out
      have h1 := ‹(u a != 0) = false›
      rw [u_ne0] at h1
      have h3 : a = 0#32 := by simpa using h1
      subst h3
      rw [tmN_zero] at hp
      go_ret
      exact ⟨ret_int (by rw [← hp]; simp), rfl⟩

set_option maxHeartbeats 400000 in
theorem carry_any (x : BitVec 32) (n : Nat) (hn : n < 9223372036854775808) (w : World) :
    Calls Try.prog 27 #[.int .u32 (u x), .int .i64 n] w fun e w' => e = .returned (.int .u32 (u (shN (8 * n) x))) ∧ w' = w := by
  go_enter Try.func27, Try.ntmps27
  go_wp2
  go_loopg [0, 1, 5] n (fun k sv sn sp wr => ∃ (v : BitVec 32) (q : Nat), k ≤ n ∧ sv = .int .u32 (u v) ∧ sn = .int .i64 k ∧ sp = .int .u32 (u (pw q)) ∧ shN (q * k) v = shN (8 * n) x ∧ wr = w)
  case atStart => exact ⟨x, 8, Nat.le_refl _, rfl, rfl, by rw [pw8]; rfl, rfl, rfl⟩
  case round =>
    obtain ⟨v, q, hk, rfl, rfl, rfl, hv, rfl⟩ := hrel
    have A : Aside (shN (q * gk) v = shN (8 * n) x) := hv
    clear hv
    have hb := i64_and1 gk (by omega)
    have B : Aside ((bits .and .i64 (gk : Int) 1 != 0) = decide (gk % 2 = 1)) := hb
    clear hb
    go_wp2_with (go_at_call 31; refine (times_any _ _ _).mono ?_; rintro e w' ⟨rfl, rfl⟩)
    · have h1 : 0 < gk := by assumption
      have h2 := ‹(bits BinOp.and IntKind.i64 (gk : Int) 1 != 0) = true›
      rw [B.out] at h2
      go_roundg (gk / 2)
      case measure => omega
      case rel => exact ⟨shN q v, q + q, by omega, by rw [tm_pw], by go_num, by rw [tm_sq], ca_yes A.out (by simpa using h2), rfl⟩
    · have h1 : 0 < gk := by assumption
      have h2 := ‹(bits BinOp.and IntKind.i64 (gk : Int) 1 != 0) = false›
      rw [B.out] at h2
      go_roundg (gk / 2)
      case measure => omega
      case rel => exact ⟨v, q + q, by omega, rfl, by go_num, by rw [tm_sq], ca_no A.out (by simpa using h2), rfl⟩
    · have h1 : gk = 0 := by omega
      have h2 := A.out
      rw [h1] at h2
      go_ret
      exact ⟨ret_int (by rw [← h2]; rfl), rfl⟩

set_option maxHeartbeats 400000 in
theorem join_any (x y : BitVec 32) (n : Nat) (hn : n ≤ 1099511627776) (w : World) :
    Calls Try.prog 23 #[.int .u32 (u x), .int .u32 (u y), .int .i64 n] w fun e w' => e = .returned (.tuple #[.int .u32 (u (shN (8 * n) x ^^^ y)), .int .i64 0]) ∧ w' = w := by
  go_enter Try.func23, Try.ntmps23
  go_wp2_with (go_at_call 27; refine (carry_any _ _ (by omega) _).mono ?_; rintro e w' ⟨rfl, rfl⟩)
  go_ret2
  exact ⟨by rw [bits_xor_u]; rfl, rfl⟩

/-- Join with the sum behind a name. -/
theorem join_ex {k : Int} (x y : BitVec 32) (n : Nat) (hk : k = n) (hn : n ≤ 1099511627776) (w : World) :
    Calls Try.prog 23 #[.int .u32 (u x), .int .u32 (u y), .int .i64 k] w fun e w' => ∃ r, e = .returned (.tuple #[.int .u32 (u r), .int .i64 0]) ∧ Aside (r = shN (8 * n) x ^^^ y) ∧ w' = w := by
  rw [hk]
  exact (join_any x y n hn w).mono fun e w' h => ⟨_, h.1, rfl, h.2⟩

set_option maxHeartbeats 400000 in
theorem join_arg (x y : BitVec 32) (n : Int) (hn : n < 0 ∨ 1099511627776 < n) (w : World) :
    Calls Try.prog 23 #[.int .u32 (u x), .int .u32 (u y), .int .i64 n] w fun e w' => e = .returned (.tuple #[.int .u32 0, .int .i64 1]) ∧ w' = w := by
  by_cases h : n < 0
  · go_enter Try.func23, Try.ntmps23
    go_wp2
    go_ret2
    exact ⟨rfl, rfl⟩
  · have h' : 1099511627776 < n := by omega
    clear hn
    go_enter Try.func23, Try.ntmps23
    go_wp2
    go_ret2
    exact ⟨rfl, rfl⟩
end Go.Proofs.Ytfmgegkeidhdfab
