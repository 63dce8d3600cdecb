/-
  THE WALKS of package sum: shift, times, carry, Join.
-/
import Derived.Test.YtbdlebengmbooaaRows
import Derived.Test.YtbdlebengmbooaaSmM
import Derived.WalkKit
import Derived.WalkSpells
import Derived.WalkLawsBesides
import Derived.Deep.LoopGhost
import Derived.Laws.Rows
namespace Go.Proofs.Ytbdlebengmbooaa.Sm
open Go.RowKit

theorem ret_int {k : IntKind} {a b : Int} (h : a = b) : Ending.returned (.int k a) = .returned (.int k b) := by rw [h]

set_option maxHeartbeats 400000 in
theorem shift_any (x : BitVec 32) (w : World) :
    Calls Try.prog 70 #[.int .u32 (u x)] w fun e w' => e = .returned (.int .u32 (u (sh x))) ∧ w' = w := by
  go_enter Try.func70, Try.ntmps70
  have hh := u_and1 x
  have H : Hid ((bits .and .u32 (u x) 1 != 0) = x.getLsbD 0) := hh
  clear hh
  go_wp2
  · have h := H.out
    rw [‹(bits BinOp.and IntKind.u32 (u x) 1 != 0) = true›] at h
    go_ret
    exact ⟨ret_int (by unfold sh; rw [← h, if_pos rfl, u_over]), rfl⟩
  · have h := H.out
    rw [‹(bits BinOp.and IntKind.u32 (u x) 1 != 0) = false›] at h
    go_ret
    exact ⟨ret_int (by unfold sh; rw [← h, if_neg (by simp), u_half]), rfl⟩

/-- The slice v holds the bytes l in w. -/
def Bytes (w : World) (v : Value) (l : List (BitVec 8)) : Prop :=
  ∃ a cap, v = .slice a l.length cap ∧ l.length ≤ cap ∧ cap ≤ maxLen ∧ (a = none → cap = 0) ∧ (∀ k, k < l.length → ∃ b off, a = some ⟨b, off, none⟩ ∧ w.cell? ⟨b, off + k, none⟩ = some (.int .u8 (c8 (l.getD k 0#8))))

set_option maxHeartbeats 400000 in
set_option maxRecDepth 100000 in
theorem feed_any (g : Nat) (x : BitVec 32) (v : Value) (l : List (BitVec 8)) (w : World) (hv : Bytes w v l)
    (ht : ∀ i : BitVec 8, w.cell? ⟨g, i.toNat, none⟩ = some (.int .u32 (u (shN 8 (i.zeroExtend 32))))) :
    Calls Try.prog 66 #[.pointer (some ⟨g, 0, none⟩), .int .u32 (u x), v] w fun e w' => e = .returned (.int .u32 (u (over x l))) ∧ w' = w := by
  obtain ⟨a, cap, rfl, hlc, hcm, _, hc⟩ := hv
  unfold maxLen at hcm
  go_enter Try.func66, Try.ntmps66
  go_wp2
  go_loop [1, 8, 11] (fun sw sc si => ∃ (k : Nat) (c : Value), k ≤ l.length ∧ si = .int .i64 k ∧ sc = c ∧ sw = .int .u32 (u (over x (l.take k)))) (fun _ _ si => l.length - (intOf si).toNat)
  case atStart => exact ⟨0, _, Nat.zero_le _, rfl, rfl, rfl⟩
  case round =>
    obtain ⟨k, c, hk, rfl, rfl, rfl⟩ := hrel
    by_cases hlt : k < l.length
    · obtain ⟨b, off, rfl, hcell⟩ := hc k hlt
      clear hc
      have T : Aside (∀ i : BitVec 8, w.cell? ⟨g, i.toNat, none⟩ = some (.int .u32 (u (shN 8 (i.zeroExtend 32))))) := ht
      clear ht
      obtain ⟨y, hy⟩ : ∃ y, y = over x (l.take k) := ⟨_, rfl⟩
      obtain ⟨c, hcc⟩ : ∃ c, c = l.getD k 0#8 := ⟨_, rfl⟩
      rw [← hcc] at hcell
      rw [← hy]
      have A : Aside (y = over x (l.take k) ∧ c = l.getD k 0#8) := ⟨hy, hcc⟩
      clear hy hcc
      obtain ⟨i, hi⟩ : ∃ i, i = y.setWidth 8 ^^^ c := ⟨_, rfl⟩
      have hx : bits .xor .u8 (u y % (256 : Int)) (c8 c) = c8 i := by rw [hi]; exact u_ix y c
      have h0 := c8_lo i
      have h1 := c8_hi i
      have ht : w.cell? ⟨g, (c8 i).toNat, none⟩ = some (.int .u32 (u (shN 8 (i.zeroExtend 32)))) := by rw [c8_nat]; exact T.out i
      have B : Aside (i = y.setWidth 8 ^^^ c) := hi
      clear hi
      go_wp2
      all_goals
        go_round
        case rel =>
          obtain ⟨hy, hcc⟩ := A.out
          refine ⟨k + 1, _, by omega, by go_num, rfl, ?_⟩
          rw [take_one l k 0#8 hlt, over_snoc, ← hy, ← hcc, ← u_by1, ← B.out]
        case measure => simp [intOf]; omega
    · go_wp2
      go_ret
      exact ⟨ret_int (by rw [List.take_of_length_le (by omega)]), rfl⟩
end Go.Proofs.Ytbdlebengmbooaa.Sm
