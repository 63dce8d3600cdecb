/-
  Lists of scopes: the document's All, the law's scopes.
-/
import Derived.Test.YtodfmnbfbndkhaaGreatDoorScA
import Derived.Test.YtodfmnbfbndkhaaGreatDoorScB
namespace Go.Proofs.YtodfmnbfbndkhaaGreatDoor
open Go.RowKit
def kSc : Kd (Int × Int) := ⟨fun x => [.int .i64 x.1, .int .i64 x.2], 2, 39, 104, 16, (0, 0)⟩
theorem okSc : kSc.Ok := ⟨fun _ => rfl, by decide, fun x u hu => by simp only [kSc, List.mem_cons, List.not_mem_nil, or_false] at hu; rcases hu with rfl | rfl <;> rfl, Tryz.underlying104, ⟨_, (by kernel_rfl : (Tryz.prog.info? 39).map (fun i => (i.zero, i.size, i.bytes)) = some (some (.agg #[.int .i64 0, .int .i64 0]), 2, 16)), rfl⟩, by decide⟩
/-- The scopes of a kind, of all kinds, of which something holds. -/
def enumA (P : Int → Int → Bool) (k a0 : Int) : Nat → List (Int × Int)
  | 0 => []
  | n + 1 => enumA P k a0 n ++ (if P k (a0 + n) = true then [(k, a0 + n)] else [])
def enumK (P : Int → Int → Bool) (k0 a0 : Int) (n : Nat) : Nat → List (Int × Int)
  | 0 => []
  | m + 1 => enumK P k0 a0 n m ++ enumA P (k0 + m) a0 n
theorem enumA_len (P : Int → Int → Bool) (k a0 : Int) (n : Nat) : (enumA P k a0 n).length ≤ n := by
  induction n with
  | zero => simp [enumA]
  | succ n ih => rw [enumA, List.length_append]; split <;> simp <;> omega
theorem enumK_len (P : Int → Int → Bool) (k0 a0 : Int) (n m : Nat) : (enumK P k0 a0 n m).length ≤ m * n := by
  induction m with
  | zero => simp [enumK]
  | succ m ih => rw [enumK, List.length_append, Nat.succ_mul]; have := enumA_len P (k0 + m) a0 n; omega
def allS : List (Int × Int) := [(0, 0), (1, 0), (2, 0), (3, 0), (4, 0), (5, 0), (5, 1), (5, 2), (5, 3), (5, 4), (5, 5), (5, 6), (5, 7), (5, 8), (5, 9)]
theorem enum_all : enumK validB 0 0 10 6 = allS := by decide
theorem enum_scopes : enumK validB (-1) (-1) 13 9 = allS := by decide

end Go.Proofs.YtodfmnbfbndkhaaGreatDoor
