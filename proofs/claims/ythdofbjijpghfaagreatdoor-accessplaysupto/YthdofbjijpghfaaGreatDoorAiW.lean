/-
  Why exactly: the binding that it tells is the nearest.
-/
import Derived.Test.YthdofbjijpghfaaGreatDoorMgD
import Derived.Test.YthdofbjijpghfaaGreatDoorAcR
namespace Go.Proofs.YthdofbjijpghfaaGreatDoor
open Go.RowKit
namespace Ac
/-- Nearer: the longer path, of one length the lesser name. -/
def Near (a b : Bd) : Prop := b.p.size < a.p.size ∨ (a.p.size = b.p.size ∧ a.n.data.toList < b.n.data.toList)
theorem near_iff (a b : Bd) : nearB a b = true ↔ Near a b := by
  unfold nearB Near
  rw [decide_eq_true_eq]
  unfold Lib.compareInt
  by_cases h1 : (b.p.size : Int) < (a.p.size : Int)
  · rw [if_pos h1, if_neg (by omega)]
    exact ⟨fun _ => Or.inl (by omega), fun _ => by omega⟩
  · by_cases h2 : (b.p.size : Int) > (a.p.size : Int)
    · rw [if_neg h1, if_pos h2, if_neg (by omega)]
      exact ⟨fun h => by omega, fun h => by rcases h with h | h <;> omega⟩
    · rw [if_neg h1, if_neg h2, if_pos rfl, cmS_lt]
      exact ⟨fun h => Or.inr ⟨by omega, h⟩, fun h => by
        rcases h with h | h
        · omega
        · exact h.2⟩
theorem near_trans {a b c : Bd} (h1 : Near a b) (h2 : Near b c) : Near a c := by
  unfold Near at *
  rcases h1 with h1 | ⟨h1, h1'⟩ <;> rcases h2 with h2 | ⟨h2, h2'⟩
  · exact Or.inl (by omega)
  · exact Or.inl (by omega)
  · exact Or.inl (by omega)
  · exact Or.inr ⟨by omega, List.lt_trans h1' h2'⟩
theorem near_irrefl (a : Bd) : ¬ Near a a := by
  rintro (h | ⟨_, h⟩)
  · omega
  · exact List.lt_irrefl _ h
/-- What is found so far. -/
structure Bst (ln : List ByteArray) (xs : List Bd) (r : Bool × Bd) : Prop where
  y : r.1 = true → r.2 ∈ xs ∧ r.2.p ∈ ln ∧ ∀ x ∈ xs, x.p ∈ ln → ¬ Near x r.2
  n : r.1 = false → r.2 = Bd.z ∧ ∀ x ∈ xs, x.p ∉ ln
theorem Bst.step {ln : List ByteArray} {xs : List Bd} {r : Bool × Bd} (h : Bst ln xs r) (x : Bd) : Bst ln (xs ++ [x]) (stp ln r x) := by
  unfold stp
  by_cases hc : x.p ∈ ln
  · rw [(Lib.containsS_iff ln x.p).2 hc, Bool.true_and]
    cases hr : r.1 with
    | false =>
      rw [Bool.not_false, Bool.true_or, if_pos rfl]
      refine ⟨fun _ => ⟨by simp, hc, fun y hy hl => ?_⟩, fun e => by simp at e⟩
      rcases List.mem_append.1 hy with q | q
      · exact absurd hl ((h.n hr).2 y q)
      · rw [List.mem_singleton] at q; rw [q]; exact near_irrefl x
    | true =>
      rw [Bool.not_true, Bool.false_or]
      obtain ⟨h1, h2, h3⟩ := h.y hr
      by_cases hn : nearB x r.2 = true
      · rw [if_pos hn]
        refine ⟨fun _ => ⟨by simp, hc, fun y hy hl => ?_⟩, fun e => by simp at e⟩
        rcases List.mem_append.1 hy with q | q
        · exact fun c => h3 y q hl (near_trans c ((near_iff _ _).1 hn))
        · rw [List.mem_singleton] at q; rw [q]; exact near_irrefl x
      · rw [if_neg hn]
        refine ⟨fun _ => ⟨by simp [h1], h2, fun y hy hl => ?_⟩, fun e => by rw [hr] at e; simp at e⟩
        rcases List.mem_append.1 hy with q | q
        · exact h3 y q hl
        · rw [List.mem_singleton] at q; rw [q]; exact fun c => hn ((near_iff _ _).2 c)
  · have e : Lib.containsS ln x.p = false := by
      cases q : Lib.containsS ln x.p with
      | false => rfl
      | true => exact absurd ((Lib.containsS_iff ln x.p).1 q) hc
    rw [e, Bool.false_and, if_neg (by simp)]
    refine ⟨fun hr => ?_, fun hr => ?_⟩
    · obtain ⟨h1, h2, h3⟩ := h.y hr
      refine ⟨by simp [h1], h2, fun y hy hl => ?_⟩
      rcases List.mem_append.1 hy with q | q
      · exact h3 y q hl
      · rw [List.mem_singleton] at q; rw [q] at hl; exact absurd hl hc
    · obtain ⟨h1, h2⟩ := h.n hr
      refine ⟨h1, fun y hy => ?_⟩
      rcases List.mem_append.1 hy with q | q
      · exact h2 y q
      · rw [List.mem_singleton] at q; rw [q]; exact hc
theorem Bst.fold {ln : List ByteArray} : ∀ (ys xs : List Bd) (r : Bool × Bd), Bst ln xs r → Bst ln (xs ++ ys) (ys.foldl (stp ln) r)
  | [], xs, r, h => by simpa using h
  | y :: ys, xs, r, h => by
    have := Bst.fold ys (xs ++ [y]) (stp ln r y) (h.step y)
    rw [List.append_assoc] at this
    exact this
theorem fol_best (ln : List ByteArray) (xs : List Bd) : Bst ln xs (fol ln xs) := by
  have := Bst.fold (ln := ln) xs [] (false, Bd.z) ⟨fun e => by simp at e, fun _ => ⟨rfl, fun x hx => by simp at hx⟩⟩
  rw [List.nil_append] at this
  exact this
/-- What Why tells. -/
structure Ny (D : DataW Unit) (u : ByteArray) (v : Int) (path : ByteArray) (r : Bool × Bd) : Prop where
  y : r.1 = true → (InD D r.2 ∧ isB r.2.s r.2.v u v = true ∧ r.2.p ∈ lineP path) ∧ ∀ x, InD D x → isB x.s x.v u v = true → x.p ∈ lineP path → ¬ Near x r.2
  n : r.1 = false → r.2 = Bd.z ∧ ∀ x, InD D x → isB x.s x.v u v = true → x.p ∉ lineP path
theorem why_ex (u : ByteArray) (v : Int) (path : ByteArray) (w : World) (t b nn : Nat) (D : DataW Unit) (H : Ta w t b nn D) :
    Calls Tryz.prog 16 #[.pointer (some ⟨t, 0, none⟩), .string u, .int .i64 v, .string path] w fun e w' => ∃ r : Bool × Bd, e = .returned (.tuple #[r.2.val, .bool r.1]) ∧ Ny D u v path r ∧ Below w.heap.size w w' := by
  refine (why_any u v path w t b nn D H).mono ?_
  rintro e w' ⟨xs, hx, rfl, hb⟩
  have hB := fol_best (lineP path) xs
  refine ⟨_, rfl, ⟨fun hr => ?_, fun hr => ?_⟩, hb⟩
  · obtain ⟨h1, h2, h3⟩ := hB.y hr
    exact ⟨⟨((hx _).1 h1).1, ((hx _).1 h1).2, h2⟩, fun x a c d => h3 x ((hx x).2 ⟨a, c⟩) d⟩
  · obtain ⟨h1, h2⟩ := hB.n hr
    exact ⟨h1, fun x a c => h2 x ((hx x).2 ⟨a, c⟩)⟩
/-- Of one question there is one answer. -/
theorem Ny.one {D : DataW Unit} {u : ByteArray} {v : Int} {path : ByteArray} {r : Bool × Bd} (h : Ny D u v path r) : r.1 = true ↔ ∃ x, InD D x ∧ isB x.s x.v u v = true ∧ x.p ∈ lineP path := by
  constructor
  · intro hr; exact ⟨r.2, (h.y hr).1⟩
  · rintro ⟨x, a, c, d⟩
    cases hr : r.1 with
    | true => rfl
    | false => exact absurd d ((h.n hr).2 x a c)
/-- A path stands on the line of another just if the other lies in it. -/
theorem line_under (path p : ByteArray) : p ∈ lineP path ↔ L.underB path p = true := by
  cases h : L.splitO path with
  | none =>
    rw [(L.under_none (b := p) h).1]
    unfold lineP
    rw [h]
    simp
  | some ts =>
    obtain ⟨rfl, hg⟩ := L.splitO_some h
    rw [lineP_good hg, mem_line, L.under_line hg]
/-- Paths on one line: the more names, the longer. -/
theorem line_size {ts : List ByteArray} (hg : L.Good ts) : ∀ {j k : Nat}, j < k → k ≤ ts.length → (L.pth (ts.take j)).size < (L.pth (ts.take k)).size := by
  have one : ∀ k, k < ts.length → (L.pth (ts.take k)).size < (L.pth (ts.take (k + 1))).size := fun k hk => by
    have := L.pathL_take (hg.take (k + 1)).1 k (by rw [List.length_take]; omega)
    rw [List.take_take, Nat.min_eq_left (by omega)] at this
    rw [L.pth_size, L.pth_size]
    exact this
  intro j k h hk
  induction k with
  | zero => omega
  | succ k ih =>
    rcases Nat.lt_or_ge j k with q | q
    · exact Nat.lt_trans (ih q (by omega)) (one k (by omega))
    · rw [show j = k by omega]; exact one k (by omega)
end Ac
end Go.Proofs.YthdofbjijpghfaaGreatDoor
