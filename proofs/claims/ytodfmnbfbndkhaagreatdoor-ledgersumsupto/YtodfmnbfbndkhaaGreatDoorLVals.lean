/-
  value, validValues: of every text, of every list of texts.
-/
import Derived.Test.YtodfmnbfbndkhaaGreatDoorLStrs
import Derived.Maps.OwnSet
import Derived.Maps.OwnOps
import Derived.Maps.Own
import Derived.Maps.Views
namespace Go.Proofs.YtodfmnbfbndkhaaGreatDoor.L
open Go.RowKit Go.Maps
def valueB (t : ByteArray) : Bool := decide (t.size = 0) || nameB t
def valuesB (ts : List ByteArray) : Bool :=
  if ts.length = 1 then valueB (ts.getD 0 ⟨#[]⟩) else decide (0 < ts.length) && decide (ts.length ≤ 8) && ts.all nameB && decide (ts.map (·.data.toList)).Nodup
theorem law : Keyed Tryz.prog 9 := string_keyed Tryz.underlying9
theorem zeroE (w : World) : (zeroValue 3).run Tryz.prog w = .ok (.int .i64 0) w := by go_simp
theorem isKeyS (l : List UInt8) : WideAt.IsKeyLit (.string l) := by trivial
/-- The map of what was seen: just these. -/
def Seen (D : DataW Unit) (ls : List (List UInt8)) : Prop := IsMap D ∧ ∀ l : List UInt8, Maps.has D (.string l) = decide (l ∈ ls)
theorem seen_none : Seen (.map []) [] := ⟨⟨[], rfl⟩, fun t => by simp [Maps.has_eq]⟩
theorem Seen.put {D : DataW Unit} {ls : List (List UInt8)} (h : Seen D ls) (l : List UInt8) (d : DataW Unit) : Seen (D.put (.string l) d) (ls ++ [l]) := by
  refine ⟨h.1.put _ _, fun u => ?_⟩
  by_cases e : u = l
  · subst e
    rw [has_put_same h.1 (isKeyS _)]
    simp
  · rw [has_put_other (fun h => e (by injection h)), h.2]
    simp [e]
theorem nodup_snoc {ls : List (List UInt8)} {l : List UInt8} (h : ls.Nodup) (hn : l ∉ ls) : (ls ++ [l]).Nodup := by
  rw [List.nodup_append]
  refine ⟨h, by simp, ?_⟩
  intro a ha b hb e
  simp only [List.mem_singleton] at hb
  subst hb e
  exact hn ha
theorem not_nodup {ls ms : List (List UInt8)} {l : List UInt8} (hn : l ∈ ls) : ¬ (ls ++ l :: ms).Nodup := by
  intro h
  rw [List.nodup_append] at h
  exact h.2.2 l hn l (by simp) rfl
theorem split_at (ts : List ByteArray) (k : Nat) (h : k < ts.length) : ts = ts.take k ++ ts.getD k ⟨#[]⟩ :: ts.drop (k + 1) := by
  rw [List.getD_eq_getElem?_getD, List.getElem?_eq_getElem h]
  simp
end Go.Proofs.YtodfmnbfbndkhaaGreatDoor.L
