/-
  Labels: lists that hold them; Valid.
-/
import Derived.Test.YtmkdmfjdhajiaaaGreatDoorLVals
import Derived.Sort.Walk0
import Derived.Lib.QuietBelow
import Derived.BigQuiet
namespace Go.Proofs.YtmkdmfjdhajiaaaGreatDoor.L
open Go.RowKit
open Go.Sort (grow)
abbrev Lbl := ByteArray × ByteArray
def Lbls (w : World) (v : Value) (ls : List Lbl) : Prop :=
  ∃ a cap, v = .slice a ls.length cap ∧ ls.length ≤ cap ∧ cap ≤ maxLen ∧ (a = none → cap = 0) ∧ ∀ k, k < ls.length → ∃ b off, a = some ⟨b, off, none⟩ ∧ w.cell? ⟨b, off + k * 2, none⟩ = some (.string (ls.getD k (⟨#[]⟩, ⟨#[]⟩)).1) ∧ w.cell? ⟨b, off + k * 2 + 1, none⟩ = some (.string (ls.getD k (⟨#[]⟩, ⟨#[]⟩)).2)
theorem Lbls.below {w w' : World} {v : Value} {ls : List Lbl} (H : Lbls w v ls) (hb : Below w.heap.size w w') : Lbls w' v ls := by
  obtain ⟨a, cap, e, h1, h2, h0, h3⟩ := H
  refine ⟨a, cap, e, h1, h2, h0, fun k hk => ?_⟩
  obtain ⟨b, off, ea, hc, hd⟩ := h3 k hk
  exact ⟨b, off, ea, by rw [hb.cell (p := ⟨b, off + k * 2, none⟩) (block_lt_of_cell hc)]; exact hc, by rw [hb.cell (p := ⟨b, off + k * 2 + 1, none⟩) (block_lt_of_cell hd)]; exact hd⟩
theorem Lbls.len {w : World} {v : Value} {ls : List Lbl} (H : Lbls w v ls) : ∃ a cap, v = .slice a ls.length cap ∧ ls.length ≤ cap ∧ cap ≤ maxLen := by
  obtain ⟨a, cap, h, h1, h2, _⟩ := H; exact ⟨a, cap, h, h1, h2⟩
theorem Lbls.at {w : World} {a : Option Addr} {n cap : Nat} {ls : List Lbl} (H : Lbls w (.slice a n cap) ls) (k : Nat) (hk : k < ls.length) : ∃ b off, a = some ⟨b, off, none⟩ ∧ w.cell? ⟨b, off + k * 2, none⟩ = some (.string (ls.getD k (⟨#[]⟩, ⟨#[]⟩)).1) ∧ w.cell? ⟨b, off + k * 2 + 1, none⟩ = some (.string (ls.getD k (⟨#[]⟩, ⟨#[]⟩)).2) := by
  obtain ⟨a', cap', e', _, _, _, hc⟩ := H
  simp only [Value.slice.injEq] at e'
  obtain ⟨rfl, rfl, rfl⟩ := e'
  exact hc k hk
def ltS (a b : ByteArray) : Bool := Op.bytesLess a.toList b.toList
/-- A label that may be. -/
def lblB (x : Lbl) : Bool := nameB x.1 && valueB x.2
/-- Keys in their order. -/
def upB (ls : List Lbl) : Bool := (List.range ls.length).all fun i => decide (i = 0) || ltS (ls.getD (i - 1) (⟨#[]⟩, ⟨#[]⟩)).1 (ls.getD i (⟨#[]⟩, ⟨#[]⟩)).1
def lblsB (ls : List Lbl) : Bool := decide (ls.length ≤ 16) && (ls.all lblB && upB ls)
theorem lblsB_no {ls : List Lbl} {k : Nat} (hk : k < ls.length) (h : lblB (ls.getD k (⟨#[]⟩, ⟨#[]⟩)) = false) : lblsB ls = false := by
  unfold lblsB
  have : ls.all lblB = false := by
    rw [List.all_eq_false]
    refine ⟨ls.getD k (⟨#[]⟩, ⟨#[]⟩), ?_, by rw [h]; exact Bool.false_ne_true⟩
    rw [List.getD_eq_getElem?_getD, List.getElem?_eq_getElem hk]
    exact List.getElem_mem hk
  rw [this, Bool.false_and, Bool.and_false]
theorem lblsB_down {ls : List Lbl} {k : Nat} (hk : k < ls.length) (h0 : 0 < k) (h : ltS (ls.getD (k - 1) (⟨#[]⟩, ⟨#[]⟩)).1 (ls.getD k (⟨#[]⟩, ⟨#[]⟩)).1 = false) : lblsB ls = false := by
  unfold lblsB
  have : upB ls = false := by
    unfold upB
    rw [List.all_eq_false]
    exact ⟨k, List.mem_range.2 hk, by rw [h, decide_eq_false (by omega)]; simp⟩
  rw [this, Bool.and_false, Bool.and_false]
theorem lblsB_yes {ls : List Lbl} (h16 : ls.length ≤ 16) (h : ∀ k, k < ls.length → lblB (ls.getD k (⟨#[]⟩, ⟨#[]⟩)) = true ∧ (0 < k → ltS (ls.getD (k - 1) (⟨#[]⟩, ⟨#[]⟩)).1 (ls.getD k (⟨#[]⟩, ⟨#[]⟩)).1 = true)) : lblsB ls = true := by
  unfold lblsB
  rw [decide_eq_true h16, Bool.true_and, Bool.and_eq_true]
  constructor
  · rw [List.all_eq_true]
    intro x hx
    obtain ⟨k, hk, e⟩ := List.getElem_of_mem hx
    have := (h k hk).1
    rw [List.getD_eq_getElem?_getD, List.getElem?_eq_getElem hk] at this
    rw [← e]
    exact this
  · unfold upB
    rw [List.all_eq_true]
    intro k hk
    rw [List.mem_range] at hk
    by_cases h0 : k = 0
    · rw [decide_eq_true h0]; rfl
    · rw [(h k hk).2 (by omega), Bool.or_true]
def validE (ls : List Lbl) : Int := if lblsB ls = true then 0 else 42
end Go.Proofs.YtmkdmfjdhajiaaaGreatDoor.L
