/-
  Line of every text; Contains; the fold of Why.
-/
import Derived.Test.YtdhnpgciclbfeaaGreatDoorAcH
namespace Go.Proofs.YtdhnpgciclbfeaaGreatDoor
open Go.RowKit
namespace Ac
/-- The line of a text: of what is no path none. -/
def lineP (p : ByteArray) : List ByteArray := match L.splitO p with
  | some ts => L.lineOf ts
  | none => []
theorem splitE_no {p : ByteArray} (h : L.splitO p = none) : L.splitE p = 41 := by unfold L.splitE; rw [h]; rfl
theorem line_no (p : ByteArray) (w : World) (hm : L.HasM w) (hn : L.splitO p = none) : Calls Tryz.prog 46 #[.string p] w fun e w' => e = .returned (.tuple #[.slice none 0 0, .int .i64 41]) ∧ Below w.heap.size w w' := by
  have PA := Lib.hid (L.path_any p w hm)
  rw [splitE_no hn] at PA
  clear hm
  go_enter Tryz.func46, Tryz.ntmps46
  go_wp2_with fail
  refine PA.out.mono ?_
  rintro e w1 ⟨rfl, hb⟩
  have B1 := Lib.hid hb
  clear hb PA
  go_wp2_with fail
  go_ret2
  exact ⟨rfl, B1.out⟩
theorem line_all (p : ByteArray) (w : World) (hm : L.HasM w) : Calls Tryz.prog 46 #[.string p] w fun e w' => ∃ a n c, e = .returned (.tuple #[.slice a n c, .int .i64 (L.splitE p)]) ∧ L.Strs w' (.slice a n c) (lineP p) ∧ Below w.heap.size w w' := by
  cases h : L.splitO p with
  | none =>
    refine (line_no p w hm h).mono ?_
    rintro e w' ⟨rfl, hb⟩
    refine ⟨none, 0, 0, by rw [splitE_no h], ?_, hb⟩
    unfold lineP
    rw [h]
    exact ⟨none, 0, rfl, by simp, by decide, fun _ => rfl, fun k hk => by simp at hk⟩
  | some ts =>
    obtain ⟨rfl, hg⟩ := L.splitO_some h
    refine (L.line_any ts hg w hm).mono ?_
    rintro e w' ⟨v, rfl, ho, hb⟩
    have hs := ho.strs
    obtain ⟨a, c, e, _, _⟩ := hs.len
    subst e
    refine ⟨a, _, c, by unfold L.splitE; rw [h]; rfl, ?_, hb⟩
    unfold lineP
    rw [h]
    exact hs
theorem contains_any (a : Option Addr) (n c : Nat) (ln : List ByteArray) (x : ByteArray) (w : World) (H : L.Strs w (.slice a n c) ln) :
    Calls Tryz.prog 47 #[.slice a n c, .string x] w fun e w' => e = .returned (.bool (Lib.containsS ln x)) ∧ w' = w := by
  obtain ⟨a', c', e, h1, h2, _, hc⟩ := H
  simp only [Value.slice.injEq] at e
  obtain ⟨rfl, rfl, rfl⟩ := e
  by_cases hn : ln.length = 0
  · have e0 : ln = [] := List.length_eq_zero_iff.1 hn
    subst e0
    exact Tryz.slices_Contains_string_empty a c x w
  · obtain ⟨b, off, rfl, _⟩ := hc 0 (by omega)
    have q := Tryz.slices_Contains_string b off ln.length c ln x w (Nat.le_refl _) (by unfold maxLen at h2; omega) (fun j hj => by
      obtain ⟨b', off', e, hcell⟩ := hc j hj
      simp only [Option.some.injEq, Addr.mk.injEq, and_true] at e
      rw [e.1, e.2]
      exact hcell)
    rw [List.take_of_length_le (Nat.le_refl _)] at q
    exact q
/-- A round of Why. -/
def stp (ln : List ByteArray) (a : Bool × Bd) (x : Bd) : Bool × Bd := if (Lib.containsS ln x.p && (!a.1 || nearB x a.2)) = true then (true, x) else a
def fol (ln : List ByteArray) (xs : List Bd) : Bool × Bd := xs.foldl (stp ln) (false, Bd.z)
theorem fol_snoc (ln : List ByteArray) (xs : List Bd) (x : Bd) : fol ln (xs ++ [x]) = stp ln (fol ln xs) x := by simp [fol, List.foldl_append]
theorem fold_yes (ln : List ByteArray) : ∀ (xs : List Bd) (a : Bool × Bd), (xs.foldl (stp ln) a).1 = true ↔ (a.1 = true ∨ ∃ x ∈ xs, Lib.containsS ln x.p = true)
  | [], a => by simp
  | x :: xs, a => by
    rw [List.foldl_cons, fold_yes ln xs]
    unfold stp
    cases hc : Lib.containsS ln x.p with
    | false => simp [hc]
    | true =>
      cases ha : a.1 with
      | true =>
        simp only [Bool.not_true, Bool.false_or, Bool.true_and, true_or, iff_true]
        split
        · exact Or.inl rfl
        · exact Or.inl ha
      | false => simp [hc]
theorem fol_yes (ln : List ByteArray) (xs : List Bd) : (fol ln xs).1 = true ↔ ∃ x ∈ xs, Lib.containsS ln x.p = true := by
  unfold fol
  rw [fold_yes]
  simp
theorem strs_cells {w w' : World} {v : Value} {ln : List ByteArray} (H : L.Strs w v ln) (h : ∀ (b o : Nat) (y : Value), w.cell? ⟨b, o, none⟩ = some y → w'.cell? ⟨b, o, none⟩ = some y) : L.Strs w' v ln := by
  obtain ⟨a, c, e, h1, h2, h3, hc⟩ := H
  exact ⟨a, c, e, h1, h2, h3, fun k hk => by
    obtain ⟨b, off, e1, e2⟩ := hc k hk
    exact ⟨b, off, e1, h _ _ _ e2⟩⟩
end Ac
end Go.Proofs.YtdhnpgciclbfeaaGreatDoor
