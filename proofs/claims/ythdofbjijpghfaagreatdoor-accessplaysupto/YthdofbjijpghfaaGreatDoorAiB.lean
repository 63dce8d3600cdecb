/-
  Of.
-/
import Derived.Test.YthdofbjijpghfaaGreatDoorAiA
namespace Go.Proofs.YthdofbjijpghfaaGreatDoor
open Go.RowKit
namespace Ac
theorem getD_inB {α : Type} {l : List α} {k : Nat} {d : α} (h : k < l.length) : l.getD k d ∈ l := by
  rw [List.getD_eq_getElem?_getD, List.getElem?_eq_getElem h]; exact List.getElem_mem h
theorem take_oneB {α : Type} (l : List α) (k : Nat) (d : α) (h : k < l.length) : l.take (k + 1) = l.take k ++ [l.getD k d] := by
  rw [List.take_add_one, List.getD_eq_getElem?_getD, List.getElem?_eq_getElem h]; rfl
theorem wf_i64 {x : Int} (h1 : -9223372036854775808 ≤ x) (h2 : x ≤ 9223372036854775807) : (Lit.int .i64 x).wf = true := by
  show (decide (IntKind.i64.min ≤ x) && decide (x ≤ IntKind.i64.max)) = true
  rw [Bool.and_eq_true]
  exact ⟨decide_eq_true (by have : IntKind.i64.min = -9223372036854775808 := rfl; omega), decide_eq_true (by have : IntKind.i64.max = 9223372036854775807 := rfl; omega)⟩
theorem isKeyB (l : List UInt8) : WideAt.IsKeyLit (.string l) := by trivial
theorem lit_ne {p p' : ByteArray} (e : ¬ p = p') : Lit.string p'.data.toList ≠ Lit.string p.data.toList := fun h => e (ByteArray.ext (Array.ext' (Lit.string.inj h).symm))
def cntP (p : ByteArray) (M : List Bv) : Nat := (M.filter (fun y => decide (y.1.p = p))).length
theorem cntP_le (p : ByteArray) (M : List Bv) : cntP p M ≤ M.length := List.length_filter_le _ _
theorem cntP_snoc (p : ByteArray) (M : List Bv) (y : Bv) : cntP p (M ++ [y]) = cntP p M + (if y.1.p = p then 1 else 0) := by
  unfold cntP
  rw [List.filter_append, List.length_append]
  by_cases h : y.1.p = p
  · rw [if_pos h]; congr 1; simp [List.filter, h]
  · rw [if_neg h]; congr 1; simp [List.filter, h]
/-- The first K can be laid; the next has a place that is taken. -/
structure Og (M : List Bv) (K : Nat) : Prop where
  v : ∀ y ∈ M, (bdR y.1).2 = 0
  d : (M.take K).Pairwise (fun a b => kl a.1.p a.1.n ≠ kl b.1.p b.1.n)
  c : ∀ p, cntP p (M.take K) ≤ 16
  e : K < M.length → ∃ y ∈ M.take K, y.1.p = (M.getD K Bv.z).1.p ∧ y.1.n = (M.getD K Bv.z).1.n
/-- Of, behind k of them. -/
structure Oh (w0 w : World) (t b h k : Nat) (M : List Bv) : Prop where
  t : ∃ D, Ta w t b k D ∧ ∀ x, InD D x ↔ ∃ y ∈ M.take k, y.1 = x
  m : ∃ D : DataW Unit, w.ownsMap Tryz.prog 9 (plainElem Tryz.prog 3) h k D ∧ Maps.IsMap D ∧ ∀ p : ByteArray, D.atKey (.string p.data.toList) (.lit (.int .i64 0)) = .lit (.int .i64 (cntP p (M.take k)))
  be : Below w0.heap.size w0 w
theorem row_atB {w : World} {a : Option Addr} {n cap : Nat} {xs : List Bv} (H : Row kBv w (.slice a n cap) xs) (k : Nat) (hk : k < xs.length) :
    ∃ b off, a = some ⟨b, off, none⟩ ∧ w.cell? ⟨b, off + k * 4, none⟩ = some (.string (xs.getD k Bv.z).1.p) ∧ w.cell? ⟨b, off + k * 4 + 1, none⟩ = some (.string (xs.getD k Bv.z).1.n) ∧ w.cell? ⟨b, off + k * 4 + 2, none⟩ = some (.string (xs.getD k Bv.z).1.s) ∧ w.cell? ⟨b, off + k * 4 + 3, none⟩ = some (.int .i64 (xs.getD k Bv.z).1.v) := by
  obtain ⟨b, off, ea, h⟩ := H.at k hk
  exact ⟨b, off, ea, h 0 _ rfl, h 1 _ rfl, h 2 _ rfl, h 3 _ rfl⟩
theorem Oh.start {w0 w : World} {t b : Nat} (M : List Bv) (H : Tb w t b 0 (.map [])) (hm : L.HasM w) (be : Below w0.heap.size w0 w) : Oh w0 (w.alloc (.map #[] 0)) t b w.heap.size 0 M := by
  have hbl : Below w.heap.size w (w.alloc (.map #[] 0)) := (Below.refl _ w).alloc (Nat.le_refl _) _
  refine ⟨⟨_, ⟨H.below hbl, hm.below hbl⟩, fun x => ⟨fun h => ?_, fun h => by simp at h⟩⟩, ⟨_, World.ownsMap_made w _ _ _, Maps.isMap_empty, fun p => ?_⟩, be.trans (hbl.mono be.size)⟩
  · have e1 := h.1 (.lit (.bool true))
    have e2 := h.1 (.map [])
    have f : ∀ z : DataW Unit, (DataW.map [] : DataW Unit).atKey (kl x.p x.n) z = z := fun z => rfl
    rw [f] at e1 e2
    rw [← e2] at e1
    simp at e1
  · rw [List.take_zero]; rfl
/-- What Of answers. -/
def OfP (w : World) (M : List Bv) (K : Nat) (e : Ending) (w' : World) : Prop :=
  Below w.heap.size w w' ∧ ((M.length ≤ K ∧ ∃ t b n D, e = .returned (.tuple #[.pointer (some ⟨t, 0, none⟩), .int .i64 0]) ∧ Ta w' t b n D ∧ n ≤ M.length ∧ w.heap.size ≤ b ∧ ∀ x, InD D x ↔ ∃ y ∈ M, y.1 = x) ∨ (K < M.length ∧ e = .returned (.tuple #[.pointer none, .int .i64 190])))
end Ac
end Go.Proofs.YthdofbjijpghfaaGreatDoor
