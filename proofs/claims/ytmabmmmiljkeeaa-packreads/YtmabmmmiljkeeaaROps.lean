/-
  A SLICE OF READING STEPS.
-/
import Derived.Test.YtmabmmmiljkeeaaBase2
namespace Go.Proofs.Ytmabmmmiljkeeaa
open Go.RowKit

/-- One step. -/
structure RO where
  k : Int
  m : Int
  e : Bool
def RO.cells (o : RO) : List Value := [.int .i64 o.k, .int .i64 o.m, .bool o.e]
def RO.zero : RO := ⟨0, 0, false⟩
def RO.fits (o : RO) : Prop := -9223372036854775808 ≤ o.m ∧ o.m < 9223372036854775808
/-- The slice v holds the steps os. -/
def ROps (w : World) (v : Value) (os : List RO) : Prop :=
  ∃ a cap, v = .slice a os.length cap ∧ os.length ≤ cap ∧ cap ≤ maxLen ∧ (∀ k, k < os.length → ∃ b off, a = some ⟨b, off, none⟩ ∧ ∀ j y, (os.getD k RO.zero).cells[j]? = some y → w.cell? ⟨b, off + k * 3 + j, none⟩ = some y)
theorem ROps.below {w w' : World} {v : Value} {xs : List RO} (H : ROps w v xs) (hb : Below w.heap.size w w') : ROps w' v xs := by
  obtain ⟨a, cap, e, h1, h2, h3⟩ := H
  refine ⟨a, cap, e, h1, h2, fun k hk => ?_⟩
  obtain ⟨b, off, ea, hc⟩ := h3 k hk
  refine ⟨b, off, ea, fun j y hy => ?_⟩
  have h := hc j y hy
  rw [hb.cell (block_lt_of_cell h)]; exact h
theorem ROps.at {w : World} {a : Option Addr} {n cap : Nat} {xs : List RO} (H : ROps w (.slice a n cap) xs) (k : Nat) (hk : k < xs.length) :
    ∃ b off, a = some ⟨b, off, none⟩ ∧ w.cell? ⟨b, off + k * 3, none⟩ = some (.int .i64 (xs.getD k RO.zero).k) ∧ w.cell? ⟨b, off + k * 3 + 1, none⟩ = some (.int .i64 (xs.getD k RO.zero).m) ∧ w.cell? ⟨b, off + k * 3 + 2, none⟩ = some (.bool (xs.getD k RO.zero).e) := by
  obtain ⟨a', cap', e', _, _, hc⟩ := H
  simp only [Value.slice.injEq] at e'
  obtain ⟨rfl, rfl, rfl⟩ := e'
  obtain ⟨b, off, ea, h⟩ := hc k hk
  exact ⟨b, off, ea, h 0 _ rfl, h 1 _ rfl, h 2 _ rfl⟩
end Go.Proofs.Ytmabmmmiljkeeaa
