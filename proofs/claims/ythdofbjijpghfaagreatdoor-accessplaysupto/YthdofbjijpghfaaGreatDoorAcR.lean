/-
  slices.SortFunc of bindings by compare.
-/
import Derived.Test.YthdofbjijpghfaaGreatDoorMgC
import Derived.Test.YthdofbjijpghfaaGreatDoorShelfS
import Derived.Test.YthdofbjijpghfaaGreatDoorScG
namespace Go.Proofs.YthdofbjijpghfaaGreatDoor
open Go.RowKit Go.Sort Go.Lib
namespace Ac
open L (Gd)
theorem Gd.grow {w w' : World} (h : Gd w w') : ∃ q os, w' = grow (w.drewN q) os := by
  obtain ⟨h1, h2⟩ := h
  refine ⟨w'.drawn - w.drawn, w'.heap.extract w.heap.size w'.heap.size, ?_⟩
  obtain ⟨hp, tp, dr, os, ou⟩ := w
  obtain ⟨hp', tp', dr', os', ou'⟩ := w'
  have e1 := h1.tape
  have e2 := h1.os
  have e3 := h1.output
  have e4 := h1.size
  have e5 := h1.block
  simp only at e1 e2 e3 e4 e5 h2
  subst e1 e2 e3
  unfold Go.Sort.grow World.drewN
  simp only [World.mk.injEq, true_and, and_true]
  refine ⟨?_, by omega⟩
  apply Array.ext_getElem?
  intro k
  rw [Array.getElem?_append]
  split
  · rename_i hk; exact e5 k hk
  · rename_i hk
    rw [Array.getElem?_extract]
    split
    · rw [show hp.size + (k - hp.size) = k by omega]
    · rw [Array.getElem?_eq_none (by omega)]
/-- A binding whose path is one. -/
def Bv : Type := { x : Bd // (L.splitO x.p).isSome = true }
def Bv.z : Bv := ⟨⟨L.pth [], ⟨#[]⟩, ⟨#[]⟩, 0⟩, by rw [L.splitO_good (ts := []) ⟨rfl, by decide, by decide⟩]; rfl⟩
instance : Inhabited Bv := ⟨Bv.z⟩
def cV (x y : Bv) : Int := cB x.1 y.1
theorem cmS_lt (x y : ByteArray) : cmS x y < 0 ↔ x.data.toList < y.data.toList := by
  unfold cmS
  rw [bytesLess_eq, bytesLess_eq, ByteArray.toList_eq, ByteArray.toList_eq]
  by_cases h : x.data.toList < y.data.toList
  · simp [h]
  · simp only [h, decide_false, Bool.false_eq_true, if_false, iff_false]
    split <;> omega
theorem cmS_zero (x y : ByteArray) : cmS x y = 0 ↔ x = y := by
  unfold cmS
  rw [bytesLess_eq, bytesLess_eq, ByteArray.toList_eq, ByteArray.toList_eq]
  constructor
  · intro h
    by_cases h1 : x.data.toList < y.data.toList
    · simp [h1] at h
    · by_cases h2 : y.data.toList < x.data.toList
      · simp [h1, h2] at h
      · exact ByteArray.ext (Array.ext' (List.le_antisymm (List.not_lt.1 h2) (List.not_lt.1 h1)))
  · rintro rfl
    simp [List.lt_irrefl]
/-- The lists of names, as lists of lists of bytes. -/
def ky (xs : List ByteArray) : List (List UInt8) := xs.map (·.data.toList)
theorem cmL_lt : ∀ (xs ys : List ByteArray), cmL xs ys < 0 ↔ ky xs < ky ys
  | [], [] => by simp [cmL, ky]
  | [], _ :: _ => by simp [cmL, ky]
  | _ :: _, [] => by simp [cmL, ky]
  | x :: xs, y :: ys => by
    have ih := cmL_lt xs ys
    unfold ky at ih ⊢
    rw [List.map_cons, List.map_cons, List.cons_lt_cons_iff, cmL, ← ih, ← cmS_lt]
    by_cases h : cmS x y = 0
    · rw [if_pos h]
      have e := (cmS_zero x y).1 h
      subst e
      simp [h]
    · rw [if_neg h]
      have hne : ¬ x.data.toList = y.data.toList := fun e => h ((cmS_zero x y).2 (ByteArray.ext (Array.ext' e)))
      simp [hne]
/-- By what bindings are told apart: the path's names, then the name. -/
def key (x : Bv) : List (List UInt8) × List UInt8 := (ky (L.splitT x.1.p), x.1.n.data.toList)
theorem ky_inj {xs ys : List ByteArray} (h : ky xs = ky ys) : xs = ys := by
  induction xs generalizing ys with
  | nil => cases ys with
    | nil => rfl
    | cons _ _ => simp [ky] at h
  | cons x xs ih => cases ys with
    | nil => simp [ky] at h
    | cons y ys =>
      unfold ky at h ih
      simp only [List.map_cons, List.cons.injEq] at h
      rw [ih h.2, ByteArray.ext (Array.ext' h.1)]
theorem path_inj (x y : Bv) (h : L.splitT x.1.p = L.splitT y.1.p) : x.1.p = y.1.p := by
  obtain ⟨⟨p, _, _, _⟩, hx⟩ := x
  obtain ⟨⟨q, _, _, _⟩, hy⟩ := y
  simp only at hx hy h ⊢
  obtain ⟨a, ha⟩ := Option.isSome_iff_exists.1 hx
  obtain ⟨b, hb⟩ := Option.isSome_iff_exists.1 hy
  unfold L.splitT at h
  rw [ha, hb] at h
  simp only [Option.getD_some] at h
  rw [(L.splitO_some ha).1, (L.splitO_some hb).1, h]
theorem lt_cV (x y : Bv) : ltOf cV x y = decide ((key x).1 < (key y).1 ∨ ((key x).1 = (key y).1 ∧ (key x).2 < (key y).2)) := by
  unfold ltOf cV cB key
  refine decide_eq_decide.2 ?_
  by_cases h : x.1.p = y.1.p
  · rw [if_pos h, cmS_lt, h]
    simp [List.lt_irrefl]
  · rw [if_neg h]
    have hk : ¬ ky (L.splitT x.1.p) = ky (L.splitT y.1.p) := fun e => h (path_inj x y (ky_inj e))
    unfold cmP
    rw [cmL_lt]
    simp [hk]
theorem swoV : SWO (ltOf cV) where
  irrefl x := by rw [lt_cV]; refine decide_eq_false ?_; simp [List.lt_irrefl]
  trans x y z h1 h2 := by
    rw [lt_cV] at *
    have a := of_decide_eq_true h1
    have b := of_decide_eq_true h2
    refine decide_eq_true ?_
    rcases a with a | ⟨a, a'⟩ <;> rcases b with b | ⟨b, b'⟩
    · exact Or.inl (List.lt_trans a b)
    · exact Or.inl (by rw [← b]; exact a)
    · exact Or.inl (by rw [a]; exact b)
    · exact Or.inr ⟨a.trans b, List.lt_trans a' b'⟩
  ntrans x y z h1 h2 := by
    rw [lt_cV] at *
    have a := of_decide_eq_false h1
    have b := of_decide_eq_false h2
    refine decide_eq_false (fun c => ?_)
    have a1 := List.not_lt.1 (fun h => a (Or.inl h))
    have b1 := List.not_lt.1 (fun h => b (Or.inl h))
    rcases c with c | ⟨c, c'⟩
    · exact List.not_lt.2 (List.le_trans b1 a1) c
    · have e1 : (key y).1 = (key x).1 := List.le_antisymm a1 (by rw [c]; exact b1)
      have e2 : (key y).1 = (key z).1 := e1.trans c
      have a2 := List.not_lt.1 (fun h => a (Or.inr ⟨e1.symm, h⟩))
      have b2 := List.not_lt.1 (fun h => b (Or.inr ⟨e2, h⟩))
      exact List.not_lt.2 (List.le_trans b2 a2) c'
end Ac
end Go.Proofs.YthdofbjijpghfaaGreatDoor
