/-
  Steps that came in.
-/
import Derived.Test.YtddnplpaoldbpaaWaL
namespace Go.Proofs.Ytddnplpaoldbpaa
open Go.RowKit Go.Maps
structure OpW where
  kind : Int
  two : Bool
  text : ByteArray
  k3 : Int
  k4 : Int
  k5 : Int
  k6 : Int
  k7 : Int
  k8 : Int
  k9 : Int
  a10 : Option Addr
  n10 : Nat
  c10 : Nat
  a11 : Option Addr
  n11 : Nat
  c11 : Nat
def OpW.cells (o : OpW) : List Value := [.int .i64 o.kind, .bool o.two, .string o.text, .int .i64 o.k3, .int .i64 o.k4, .int .i64 o.k5, .int .i64 o.k6, .int .i64 o.k7, .int .i64 o.k8, .int .i64 o.k9, .slice o.a10 o.n10 o.c10, .slice o.a11 o.n11 o.c11]
/-- The slice v holds the steps l. -/
def OpsW (w : World) (v : Value) (l : List OpW) : Prop :=
  (∀ o ∈ l, o.text.size ≤ 140737488355328) ∧ ∃ a cap, v = .slice a l.length cap ∧ l.length ≤ cap ∧ cap ≤ maxLen ∧ (l ≠ [] → ∃ b off, a = some ⟨b, off, none⟩ ∧ ∀ j x, l[j]? = some x → ∀ i u, x.cells[i]? = some u → w.cell? ⟨b, off + j * 12 + i, none⟩ = some u)
theorem OpsW.below {w w' : World} {v : Value} {l : List OpW} (H : OpsW w v l) (hb : Below w.heap.size w w') : OpsW w' v l := by
  obtain ⟨h0, a, cap, e, h1, h2, h3⟩ := H
  refine ⟨h0, a, cap, e, h1, h2, fun hne => ?_⟩
  obtain ⟨b, off, ea, hc⟩ := h3 hne
  refine ⟨b, off, ea, fun j x hj i u hu => ?_⟩
  have := hc j x hj i u hu
  rw [hb.cell (p := ⟨b, off + j * 12 + i, none⟩) (block_lt_of_cell this)]
  exact this
end Go.Proofs.Ytddnplpaoldbpaa
