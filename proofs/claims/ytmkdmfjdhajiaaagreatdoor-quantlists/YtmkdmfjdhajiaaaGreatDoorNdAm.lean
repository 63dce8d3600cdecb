/-
  Amounts as data, in memory (scope's ScD, amounts alone).
-/
import Derived.Test.YtmkdmfjdhajiaaaGreatDoorScG
namespace Go.Proofs.YtmkdmfjdhajiaaaGreatDoor
open Go.RowKit
/-- An amount. -/
structure Am where
  n : ByteArray
  v : Int
def kAm : Kd Am := ⟨fun x => [.string x.n, .int .i64 x.v], 2, 36, 22, 24, ⟨⟨#[]⟩, 0⟩⟩
theorem okAm : kAm.Ok := ⟨fun _ => rfl, by decide, fun x u hu => by simp only [kAm, List.mem_cons, List.not_mem_nil, or_false] at hu; rcases hu with rfl | rfl <;> rfl, Tryz.underlying22, ⟨_, (by kernel_rfl : (Tryz.prog.info? 36).map (fun i => (i.zero, i.size, i.bytes)) = some (some (.agg #[.string ⟨#[]⟩, .int .i64 0]), 2, 24)), rfl⟩, by decide⟩
def Am.fit (x : Am) : Prop := x.n.size ≤ 140737488355328 ∧ -9223372036854775808 ≤ x.v ∧ x.v ≤ 9223372036854775807
theorem getD_in {α : Type} {l : List α} {k : Nat} {d : α} (h : k < l.length) : l.getD k d ∈ l := by
  rw [List.getD_eq_getElem?_getD, List.getElem?_eq_getElem h]
  exact List.getElem_mem h
theorem take_onez {α : Type} (l : List α) (k : Nat) (d : α) (h : k < l.length) : l.take (k + 1) = l.take k ++ [l.getD k d] := by
  rw [List.take_add_one, List.getD_eq_getElem?_getD, List.getElem?_eq_getElem h]; rfl
end Go.Proofs.YtmkdmfjdhajiaaaGreatDoor
