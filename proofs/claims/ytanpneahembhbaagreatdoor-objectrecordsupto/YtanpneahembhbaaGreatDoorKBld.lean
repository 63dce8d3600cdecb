/-
  A builder; strings.Clone.
-/
import Derived.Test.YtanpneahembhbaaGreatDoorShelf
import Derived.Test.YtanpneahembhbaaGreatDoorKLenM
namespace Go.Proofs.YtanpneahembhbaaGreatDoor.K
open Go.RowKit
abbrev IsB (B b : Nat) (bs : List UInt8) (w : World) : Prop := Lib.IsBuilderF 123 5 B b (Lib.byteCells bs) w
theorem isB_below {B b : Nat} {bs : List UInt8} {w w' : World} (h : IsB B b bs w) (hb : Below w.heap.size w w') : IsB B b bs w' := by
  have one : ∀ p, Lib.BuilderAtF 123 5 B b p (Lib.byteCells bs) w → Lib.BuilderAtF 123 5 B b p (Lib.byteCells bs) w' := by
    intro p h
    have hlt := h.lt
    obtain ⟨hB, v, hbk, hown, hne⟩ := h
    refine ⟨hB, v, by rw [hb.block b hlt]; exact hbk, ?_, hne⟩
    obtain ⟨h1, h2 | ⟨g, cap, cur, fz, hv, hg, hgg, hr⟩⟩ := hown
    · exact ⟨h1, .inl h2⟩
    · have hl : g < w.heap.size := (Array.getElem?_eq_some_iff.1 hgg).1
      exact ⟨h1, .inr ⟨g, cap, cur, fz, hv, hg, by rw [hb.block g hl]; exact hgg, hr⟩⟩
  exact h.imp (one _) (one _)
theorem isB_new (w : World) : IsB w.heap.size w.heap.size [] (w.alloc (.cells #[.pointer none, .slice none 0 0] 123)) := by
  refine .inl ⟨Nat.le_refl _, _, heap_alloc_new w _, World.ownsRowF_nil _ _ _ _, ?_⟩
  intro h
  cases h
theorem write_any (B b : Nat) (bs : List UInt8) (s : ByteArray) (w : World) (h : IsB B b bs w) (hlen : bs.length + s.size ≤ 140737488355328) (hBw : B ≤ w.heap.size) :
    Calls Tryz.prog 83 #[.pointer (some ⟨b, 0, none⟩), .string s] w fun e w' => e = .returned (.tuple #[.int .i64 s.size, .nilIface]) ∧ IsB B b (bs ++ s.data.toList) w' ∧ Below B w w' := by
  refine (Any.Builder_WriteString_f (ρ := Tryz.lays155_ren) { Tryz.lays155 with } Tryz.Builder_Extra_155 B b (Lib.byteCells bs) s w h (by rw [Lib.byteCells_length]; exact hlen) hBw).mono ?_
  rintro e w' ⟨rfl, h1, h2⟩
  refine ⟨rfl, .inr ?_, h2⟩
  have e : Lib.byteCells (bs ++ s.data.toList) = Lib.byteCells bs ++ Lib.strCells s := by
    simp [Lib.byteCells, Lib.strCells]
  rw [e]
  exact h1
end Go.Proofs.YtanpneahembhbaaGreatDoor.K
