/-
  AnchorCodes: appends of three bytes.
-/
import Derived.Test.YthjekiddjldehaaArD
import Derived.Test.YthjekiddjldehaaAnF
import Derived.Test.YthjekiddjldehaaAuB
import Derived.Test.YthjekiddjldehaaAnG
namespace Go.Proofs.Ythjekiddjldehaa
open Go.RowKit Go.Maps
theorem app3 {ops : Array Oper} {rest : List Oper} {o : Oper} {a : Act} {Q : Exit → Act → World → Prop} (hgd : o.guard = none) (s x : Operand)
    (ho : o.op = .call { callee := .builtin .append, args := #[s, x], argTypes := #[32, 32] })
    {B : Nat} {w0 : World} {v : Value} {l : List UInt8} (hs : a.eval s = v) (hown : Own B w0 v l) (hB : B ≤ w0.heap.size)
    (hx : a.eval x = .slice (some ⟨w0.heap.size, 0, none⟩) 3 3) (hl : l.length ≤ 140737488351232)
    (h : ∀ v' w', Own B w' v' (l ++ [165, 166, 167]) → w0.grownBy w' v.ownBlock → wpList Try.prog ops Q rest (a.put o.dst v') w') :
    wpList Try.prog ops Q (o :: rest) a (w0.alloc (.cells #[.int .u8 165, .int .u8 166, .int .u8 167] 5)) := by
  have hu : Own 0 (w0.alloc (.cells #[.int .u8 165, .int .u8 166, .int .u8 167] 5)) (.slice (some ⟨w0.heap.size, 0, none⟩) 3 3) [165, 166, 167] := own_of (heap_alloc_new _ _) (Nat.zero_le _) rfl (by decide)
  refine app_bytes hgd s x ho hs (World.ownsRow.alloc hown _) (by simp; omega) hx hu.bytes (by simp; omega) ?_
  intro v' w' h1 h2 _
  exact h v' w' h1 (grown_alloc h2)
theorem app3g {ops : Array Oper} {rest : List Oper} {o : Oper} {a : Act} {Q : Exit → Act → World → Prop} (s x : Operand)
    (ho : o.op = .call { callee := .builtin .append, args := #[s, x], argTypes := #[32, 32] }) (hw : Region.wanted o (yielded ops a.tmps) = true)
    {B : Nat} {w0 : World} {v : Value} {l : List UInt8} (hs : a.eval s = v) (hown : Own B w0 v l) (hB : B ≤ w0.heap.size)
    (hx : a.eval x = .slice (some ⟨w0.heap.size, 0, none⟩) 3 3) (hl : l.length ≤ 140737488351232)
    (h : ∀ v' w', Own B w' v' (l ++ [165, 166, 167]) → w0.grownBy w' v.ownBlock → wpList Try.prog ops Q rest (a.put o.dst v') w') :
    wpList Try.prog ops Q (o :: rest) a (w0.alloc (.cells #[.int .u8 165, .int .u8 166, .int .u8 167] 5)) := by
  have h2 := app3 (ops := ops) (rest := rest) (o := { o with guard := none }) (a := a) (Q := Q) rfl s x ho hs hown hB hx hl h
  rw [wpList, if_pos (show Region.wanted _ _ = true from rfl)] at h2
  rw [wpList, if_pos hw]
  exact h2
end Go.Proofs.Ythjekiddjldehaa
