/-
  cutDigits; factorOf; at the texts of the laws known.
-/
import Derived.Test.YtmkdmfjdhajiaaaGreatDoorRows
import Derived.Test.YtmkdmfjdhajiaaaGreatDoorShelf
import Derived.Shelf.Strings.SlTrimAscii
import Derived.WalkKit
import Derived.WalkSpells
import Derived.WalkLawsBesides
import Derived.Handy
import Derived.RegionTactic
import Derived.BigQuiet
import Derived.Deep.QuietTactic
namespace Go.Proofs.YtmkdmfjdhajiaaaGreatDoor
open Go.RowKit
def digs : ByteArray := ⟨#[48, 49, 50, 51, 52, 53, 54, 55, 56, 57]⟩
theorem set_info : (Tryz.prog.info? (Tryz.lays161_ren.t 116)).map (fun i => (i.zero, i.size)) = some (some (.agg (Array.replicate 256 (.bool false))), 256) := by kernel_rfl
theorem digs_ascii : ∀ b ∈ digs.data.toList, b.toNat < 128 := by decide
theorem trim_any (s : ByteArray) (w : World) : Calls Tryz.prog 50 #[.string s, .string digs] w fun e w' => e = .returned (.string ⟨(Lib.trimLeftS s.data.toList digs.data.toList).toArray⟩) ∧ Below w.heap.size w w' :=
  Any.strings_TrimLeft_laid Tryz.lays161 set_info s digs w (by decide) (fun j b h => digs_ascii b (List.mem_of_getElem? h))
set_option maxHeartbeats 1000000 in
theorem cut_at (t : ByteArray) (d r : ByteArray) (h : Lib.trimLeftS t.data.toList digs.data.toList = r.data.toList) (he : t.extract 0 (t.size - r.size) = d) (hl : r.size ≤ t.size) (ht : t.size ≤ 140737488355328) (w : World) :
    Calls Tryz.prog 36 #[.string t] w fun e w' => e = .returned (.tuple #[.string d, .string r]) ∧ Below w.heap.size w w' := by
  have E : Aside (t.extract 0 (t.size - r.size) = d) := he
  clear he
  go_enter Tryz.func36, Tryz.ntmps36
  go_wp2_with fail
  refine (trim_any t w).mono ?_
  rintro e w1 ⟨rfl, hb⟩
  have er : (⟨r.data.toList.toArray⟩ : ByteArray) = r := by simp
  rw [h, er]
  have B : Aside (Below w.heap.size w w1) := hb
  clear hb h er
  go_wp2_with fail
  go_ret2
  refine ⟨?_, B.out⟩
  rw [← E.out]; rfl
end Go.Proofs.YtmkdmfjdhajiaaaGreatDoor
