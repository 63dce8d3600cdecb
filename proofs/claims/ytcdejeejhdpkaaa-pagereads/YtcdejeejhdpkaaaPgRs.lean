/-
  The document's sum (in the namespace Sm).
-/
import Derived.Test.YtcdejeejhdpkaaaPgB
namespace Go.Proofs.Ytcdejeejhdpkaaa.Sm
open Go.RowKit
set_option maxHeartbeats 400000 in
theorem rstep_any (x : BitVec 32) (w : World) :
    Calls Try.prog 62 #[.int .u32 (u x)] w fun e w' => e = .returned (.int .u32 (u (sh x))) ∧ w' = w := by
  have h0 := u_lo x
  have H : Hid ((u x % (2 : Int) == 1) = x.getLsbD 0) := u_odd x
  go_enter Try.func62, Try.ntmps62
  go_wp2
  · have h := H.out
    rw [‹(u x % 2 == 1) = true›] at h
    go_ret
    exact ⟨ret_int (by unfold sh; rw [← h, if_pos rfl, u_tdiv]; exact bits_xor_u _ 0x82F63B78#32), rfl⟩
  · have h := H.out
    rw [‹(u x % 2 == 1) = false›] at h
    go_ret
    exact ⟨ret_int (by unfold sh; rw [← h, if_neg (by simp), u_tdiv]), rfl⟩

set_option maxHeartbeats 400000 in
theorem rover_any (x : BitVec 32) (v : Value) (l : List (BitVec 8)) (w : World) (hv : Bytes w v l) :
    Calls Try.prog 58 #[.int .u32 (u x), v] w fun e w' => e = .returned (.int .u32 (u (over x l))) ∧ w' = w := by
  obtain ⟨a, cap, rfl, hlc, hcm, _, hc⟩ := hv
  unfold maxLen at hcm
  go_enter Try.func58, Try.ntmps58
  go_wp2
  go_loopg [0, 5, 6] l.length (fun g sw si sj wr => ∃ (k : Nat) (vj : Value), k ≤ l.length ∧ g = l.length - k ∧ si = .int .i64 k ∧ sj = vj ∧ sw = .int .u32 (u (over x (l.take k))) ∧ wr = w)
  case atStart => exact ⟨0, _, Nat.zero_le _, rfl, rfl, rfl, rfl, rfl⟩
  case round =>
    obtain ⟨k, vj, hk, hgk, rfl, rfl, rfl, rfl⟩ := hrel
    have G : Aside (gk = l.length - k) := hgk
    clear hgk
    by_cases hlt : k < l.length
    · obtain ⟨b, off, rfl, hcell⟩ := hc k hlt
      clear hc
      obtain ⟨y, hy⟩ : ∃ y, y = over x (l.take k) := ⟨_, rfl⟩
      obtain ⟨c, hcc⟩ : ∃ c, c = l.getD k 0#8 := ⟨_, rfl⟩
      rw [← hcc] at hcell
      rw [← hy]
      have A : Aside (y = over x (l.take k) ∧ c = l.getD k 0#8) := ⟨hy, hcc⟩
      clear hy hcc
      have b0 := c8_lo c
      have b1 := c8_hi c
      have hx := u_xor_c y c
      go_wp2
      clear hx hcell b0 b1
      go_loopg [0, 6] 8 (fun g sw sj wr' => ∃ (j : Nat), j ≤ 8 ∧ g = 8 - j ∧ sj = .int .i64 j ∧ sw = .int .u32 (u (shN j (y ^^^ c.zeroExtend 32))) ∧ wr' = wr)
      case atStart => exact ⟨0, by omega, rfl, rfl, rfl, rfl⟩
      case round =>
        obtain ⟨j, hj, hgj, rfl, rfl, rfl⟩ := hrel
        have G2 : Aside (gk = 8 - j) := hgj
        clear hgj
        by_cases hlj : j < 8
        · go_wp2_with (go_at_call 62; refine (rstep_any _ _).mono ?_; rintro e w' ⟨rfl, rfl⟩)
          go_roundg (8 - (j + 1))
          case measure => have := G2.out; omega
          case rel => exact ⟨j + 1, by omega, rfl, by go_num, by rw [shN_succ'], rfl⟩
        · go_wp2
          go_roundg (l.length - (k + 1))
          case measure => have := G.out; omega
          case rel =>
            obtain ⟨hy, hcc⟩ := A.out
            obtain rfl : j = 8 := by omega
            exact ⟨k + 1, _, by omega, rfl, by go_num, rfl, by rw [take_one l k 0#8 hlt, over_snoc, ← hy, ← hcc]; rfl, rfl⟩
    · go_wp2
      go_ret
      exact ⟨ret_int (by rw [List.take_of_length_le (by omega)]), rfl⟩

theorem u_ones : u (~~~ 0#32) = 4294967295 := by decide +kernel
theorem u_not' (x : BitVec 32) : bits .xor .u32 4294967295 (u x) = u (~~~ x) := u_not x

theorem rover_ones (v : Value) (l : List (BitVec 8)) (w : World) (hv : Bytes w v l) :
    Calls Try.prog 58 #[.int .u32 4294967295, v] w fun e w' => e = .returned (.int .u32 (u (over (~~~ 0#32) l))) ∧ w' = w := by
  have h := rover_any (~~~ 0#32) v l w hv
  rw [u_ones] at h; exact h

set_option maxHeartbeats 400000 in
theorem rsum_any (v : Value) (l : List (BitVec 8)) (w : World) (hv : Bytes w v l) :
    Calls Try.prog 53 #[v] w fun e w' => e = .returned (.int .u32 (u (upd 0#32 l))) ∧ w' = w := by
  go_enter Try.func53, Try.ntmps53
  go_wp2_with (go_at_call 58; refine (rover_ones v l _ hv).mono ?_; rintro e w' ⟨rfl, rfl⟩)
  go_ret
  exact ⟨ret_int (u_not' _), rfl⟩
theorem rover_eq {n : Int} {x : BitVec 32} (hn : n = u x) (v : Value) (l : List (BitVec 8)) (w : World) (hv : Bytes w v l) :
    Calls Try.prog 58 #[.int .u32 n, v] w fun e w' => e = .returned (.int .u32 (u (over x l))) ∧ w' = w := by
  rw [hn]; exact rover_any x v l w hv

set_option maxHeartbeats 400000 in
theorem rupdate_any (x : BitVec 32) (v : Value) (l : List (BitVec 8)) (w : World) (hv : Bytes w v l) :
    Calls Try.prog 54 #[.int .u32 (u x), v] w fun e w' => e = .returned (.int .u32 (u (upd x l))) ∧ w' = w := by
  go_enter Try.func54, Try.ntmps54
  go_wp2_with (go_at_call 58; refine (rover_eq (u_not' x) v l _ hv).mono ?_; rintro e w' ⟨rfl, rfl⟩)
  go_ret
  exact ⟨ret_int (u_not' _), rfl⟩

end Go.Proofs.Ytcdejeejhdpkaaa.Sm
