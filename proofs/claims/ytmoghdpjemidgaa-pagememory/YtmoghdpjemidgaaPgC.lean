/-
  follows, isBlock, stands; put, get; bytes behind a slice that has room.
-/
import Derived.Test.YtmoghdpjemidgaaPgB
namespace Go.Proofs.Ytmoghdpjemidgaa
open Go.RowKit Go.Maps
def blkB (n : Int) : Bool := decide (1 ≤ n) && decide (n < 4096)
def folB (l k : ByteArray) : Bool := (!Op.bytesLess k.toList l.toList && !(k.toList == l.toList)) && decide (k.size ≤ 120)
def staB (v : ByteArray) (c : Int) : Bool := if c = 0 then decide (v.size ≤ 64) else blkB c && decide (v.size = 0)
set_option maxHeartbeats 400000 in
theorem isBlock_any (n : Int) (w : World) : Calls Try.prog 31 #[.int .i64 n] w fun e w' => e = .returned (.bool (blkB n)) ∧ w' = w := by
  unfold blkB
  by_cases h1 : n ≥ 1
  · have d1 : decide (n ≥ 1) = true := decide_eq_true h1
    go_enter Try.func31, Try.ntmps31
    go_wp2_with fail
    go_ret
    refine ⟨?_, rfl⟩
    rw [show decide (1 ≤ n) = true from d1, Bool.true_and]
    rfl
  · have d1 : decide (n ≥ 1) = false := decide_eq_false h1
    go_enter Try.func31, Try.ntmps31
    go_wp2_with fail
    go_ret
    refine ⟨?_, rfl⟩
    first | rfl | (rw [show decide (1 ≤ n) = false from d1, Bool.false_and]; rfl)
set_option maxHeartbeats 400000 in
theorem follows_any (l k : ByteArray) (w : World) : Calls Try.prog 28 #[.string l, .string k] w fun e w' => e = .returned (.bool (folB l k)) ∧ w' = w := by
  unfold folB
  cases h1 : Op.bytesLess k.toList l.toList with
  | true =>
    go_enter Try.func28, Try.ntmps28
    go_wp2_with fail
    go_ret
    exact ⟨rfl, rfl⟩
  | false =>
    cases h2 : (k.toList == l.toList) with
    | true =>
      go_enter Try.func28, Try.ntmps28
      go_wp2_with fail
      go_ret
      exact ⟨rfl, rfl⟩
    | false =>
      go_enter Try.func28, Try.ntmps28
      go_wp2_with fail
      go_ret
      refine ⟨?_, rfl⟩
      show _ = Ending.returned (Value.bool (decide (k.size ≤ 120)))
      exact congrArg (fun b => Ending.returned (Value.bool b)) (decide_eq_decide.2 (by omega))
theorem size_empty (v : ByteArray) : (v.toList == (⟨#[]⟩ : ByteArray).toList) = decide (v.size = 0) := by
  rw [ByteArray.toList_eq, ByteArray.toList_eq]
  obtain ⟨⟨l⟩⟩ := v
  cases l <;> simp [ByteArray.size]
set_option maxHeartbeats 400000 in
theorem stands_any (v : ByteArray) (c : Int) (w : World) : Calls Try.prog 29 #[.string v, .int .i64 c] w fun e w' => e = .returned (.bool (staB v c)) ∧ w' = w := by
  have IB := Lib.hid isBlock_any
  unfold staB
  by_cases h : c = 0
  · subst h
    rw [if_pos rfl]
    go_enter Try.func29, Try.ntmps29
    go_wp2_with fail
    go_ret
    refine ⟨?_, rfl⟩
    exact congrArg (fun b => Ending.returned (Value.bool b)) (decide_eq_decide.2 (by omega))
  · have d : (c == 0) = false := by simp [h]
    rw [if_neg h]
    clear h
    cases hb : blkB c with
    | true =>
      go_enter Try.func29, Try.ntmps29
      go_wp2_with (go_at_call 31; refine (IB.out _ _).mono ?_; rintro e w' ⟨rfl, rfl⟩; rw [hb])
      go_ret
      refine ⟨?_, rfl⟩
      rw [Bool.true_and, ← size_empty]
      first | rfl | (congr 2; simp)
    | false =>
      go_enter Try.func29, Try.ntmps29
      go_wp2_with (go_at_call 31; refine (IB.out _ _).mono ?_; rintro e w' ⟨rfl, rfl⟩; rw [hb])
      go_ret
      exact ⟨rfl, rfl⟩
end Go.Proofs.Ytmoghdpjemidgaa
