/-
  The six lists with the array of their sizes; the law's behind with its mark (for QuantApart).
-/
import Derived.Test.YtendjedlcobhlaaDoorApA
namespace Go.Proofs.YtendjedlcobhlaaDoor
open Go.RowKit Go.Lib
open Go.Sort (grow)
theorem Sx.at {g7 : Nat} {W0 W : World} {vs : List Value} {Ls : List (List Am)} (h : Sx g7 W0 W vs Ls) (i : Nat) (hi : i < 6) : W.cell? ⟨g7, i, none⟩ = some (vs.getD i nilV) ∧ W.frozen? ⟨g7, i, none⟩ = false := by
  refine ⟨?_, frozen_row h.box i⟩
  have : vs[i]? = some (vs.getD i nilV) := by
    rw [List.getD_eq_getElem?_getD, List.getElem?_eq_getElem (by rw [h.vl]; exact hi)]; rfl
  unfold World.cell?
  rw [h.box]
  simpa using this
structure Sy (g7 g8 : Nat) (W0 W : World) (vs : List Value) (Ls : List (List Am)) (sz : List Nat) : Prop where
  x : Sx g7 W0 W vs Ls
  sb : W.heap[g8]? = some (.cells (sz.map fun n : Nat => Value.int .i64 (n : Int)).toArray 30 (0, 0))
  sl : sz.length = 6
  lt : g7 < g8
variable {g7 g8 : Nat} {W0 W W' : World} {vs : List Value} {Ls : List (List Am)} {sz : List Nat}
theorem Sy.size (h : Sy g7 g8 W0 W vs Ls sz) : g8 < W.heap.size := (Array.getElem?_eq_some_iff.1 h.sb).1
theorem Sy.row_ne (h : Sy g7 g8 W0 W vs Ls sz) (i : Nat) (hi : i < 6) : ∀ b, (vs.getD i nilV).ownBlock = some b → b ≠ g8 := by
  intro b hb e
  subst e
  obtain ⟨cs, m, q⟩ := (h.x.own i hi).ty b hb
  rw [h.sb] at q
  simp only [Option.some.injEq, Obj.cells.injEq] at q
  exact absurd q.2.1 (by decide)
theorem Sy.start (h : Sx g7 W0 W vs Ls) : Sy g7 W.heap.size W0 (W.alloc (.cells #[.int .i64 0, .int .i64 0, .int .i64 0, .int .i64 0, .int .i64 0, .int .i64 0] 30)) vs Ls [0, 0, 0, 0, 0, 0] :=
  ⟨h.below ((Below.refl _ W).alloc (Nat.le_refl _) _), heap_alloc_new _ _, rfl, h.lt⟩
theorem Sy.below (h : Sy g7 g8 W0 W vs Ls sz) (hb : Below W.heap.size W W') : Sy g7 g8 W0 W' vs Ls sz := ⟨h.x.below hb, (hb.block _ h.size).trans h.sb, h.sl, h.lt⟩
theorem Sy.num (h : Sy g7 g8 W0 W vs Ls sz) (i : Nat) (hi : i < 6) : W.cell? ⟨g8, i, none⟩ = some (.int .i64 ((sz.getD i 0 : Nat) : Int)) ∧ W.frozen? ⟨g8, i, none⟩ = false := by
  refine ⟨?_, frozen_row h.sb i⟩
  have : sz[i]? = some (sz.getD i 0) := by
    rw [List.getD_eq_getElem?_getD, List.getElem?_eq_getElem (by rw [h.sl]; exact hi)]; rfl
  unfold World.cell?
  rw [h.sb]
  have t2 : (sz.map fun n : Nat => Value.int .i64 (n : Int))[i]? = some (.int .i64 ((sz.getD i 0 : Nat) : Int)) := by rw [List.getElem?_map, this]; rfl
  simpa using t2
theorem Sy.set (h : Sy g7 g8 W0 W vs Ls sz) (i : Nat) (n : Nat) : Sy g7 g8 W0 (W.setCell ⟨g8, i, none⟩ (.int .i64 (n : Int))) vs Ls (sz.set i n) := by
  have hl := h.lt
  refine ⟨⟨?_, h.x.vl, h.x.ll, fun j hj => ?_, h.x.ap, h.x.bel.setCell (p := ⟨g8, i, none⟩) (show g7 ≤ g8 by omega) _⟩, ?_, by rw [List.length_set]; exact h.sl, h.lt⟩
  · rw [Below.heap_setCell _ _ _ _ (show g7 ≠ g8 by omega)]; exact h.x.box
  · exact (h.x.own j hj).kept (kept_set (F := fun y => y = g8) _ _ _ rfl) (fun b hb => h.row_ne j hj b hb)
  · rw [heap_setCell_same _ _ _ _ _ _ h.sb]
    congr 2
    apply Array.ext'
    simp
theorem Sy.cell (h : Sy g7 g8 W0 W vs Ls sz) (i : Nat) (hi : i < 6) {g n c : Nat} (hv : vs.getD i nilV = .slice (some ⟨g, 0, none⟩) n c) (j q : Nat) (hj : j < (Ls.getD i []).length) (hq : q < 2) (y : Am) (x : Value) (hy : kAm.c y = (kAm.c ((Ls.getD i []).getD j kAm.z)).set q x) : Sy g7 g8 W0 (W.setCell ⟨g, j * 2 + q, none⟩ x) vs (Ls.set i ((Ls.getD i []).set j y)) sz :=
  ⟨h.x.cell i hi hv j q hj hq y x hy, by
    rw [Below.heap_setCell _ _ _ _ (show g8 ≠ g from fun e => h.row_ne i hi g (by rw [hv]; rfl) e.symm)]; exact h.sb, h.sl, h.lt⟩
theorem Sy.app (h : Sy g7 g8 W0 W vs Ls sz) (i : Nat) (hi : i < 6) {v : Value} {L : List Am} (ho : OwnR kAm (g7 + 1) W' v L) (hg : W.grownBy W' (vs.getD i nilV).ownBlock) (hat : v.ownBlock = (vs.getD i nilV).ownBlock ∨ v.ownBlock = some W.heap.size) : Sy g7 g8 W0 (W'.setCell ⟨g7, i, none⟩ v) (vs.set i v) (Ls.set i L) sz :=
  ⟨h.x.app i hi ho hg hat, by
    have hl := h.lt
    rw [Below.heap_setCell _ _ _ _ (show g8 ≠ g7 by omega)]
    exact ((grown_kept hg).block g8 h.size (fun e => h.row_ne i hi g8 e.symm rfl)).trans h.sb, h.sl, h.lt⟩
/-- An element turned whole: its two cells. -/
theorem Sy.put (h : Sy g7 g8 W0 W vs Ls sz) (i : Nat) (hi : i < 6) {g n c : Nat} (hv : vs.getD i nilV = .slice (some ⟨g, 0, none⟩) n c) (j : Nat) (hj : j < (Ls.getD i []).length) (y : Am) : Sy g7 g8 W0 ((W.setCell ⟨g, j * 2, none⟩ (.string y.n)).setCell ⟨g, j * 2 + 1, none⟩ (.int .i64 y.v)) vs (Ls.set i ((Ls.getD i []).set j y)) sz := by
  have e0 := h.cell i hi hv j 0 hj (by decide) ⟨y.n, ((Ls.getD i []).getD j kAm.z).v⟩ (.string y.n) rfl
  have hl : i < Ls.length := by rw [h.x.ll]; exact hi
  have ei : (Ls.set i ((Ls.getD i []).set j ⟨y.n, ((Ls.getD i []).getD j kAm.z).v⟩)).getD i [] = (Ls.getD i []).set j ⟨y.n, ((Ls.getD i []).getD j kAm.z).v⟩ := by rw [getD_setL _ _ _ _ _ hl, if_pos rfl]
  have e1 := e0.cell i hi hv j 1 (by rw [ei, List.length_set]; exact hj) (by decide) y (.int .i64 y.v) (by
    rw [ei, getD_setL _ _ _ _ _ hj, if_pos rfl]; rfl)
  rw [ei, List.set_set, List.set_set] at e1
  exact e1
theorem behind_full (v : Value) (l : List Am) (m : Amt) (w : World) (n : Nat) (hn : n = l.length) (hv : Row kAm w v l) (hm : Mark w m) (hl : (n + 1) * 24 ≤ 140737488355328) :
    Calls Tryd.prog 9 #[v] w fun e w' => ∃ g cap, e = .returned (.slice (some ⟨g, 0, none⟩) (n + 1) cap) ∧ n + 1 ≤ cap ∧ cap ≤ 9223372036854775807 ∧ Row kAm w' (.slice (some ⟨g, 0, none⟩) n cap) l ∧ Amts w' (.slice (some ⟨g, 0, none⟩) (n + 1) cap) (toA l ++ [m]) ∧ Below w.heap.size w w' := by
  subst hn
  refine (behind_any v (toA l) m w (amts_row hv) hm (by rw [toA_len]; exact hl)).mono ?_
  rintro e w' ⟨v', rfl, ho, hb⟩
  have ha := ho.amts
  obtain ⟨_, ⟨_, hn⟩ | ⟨g, cap, cur, hv', _, _, hn, hm', _⟩⟩ := ho
  · simp at hn
  · subst hv'
    have e1 : (toA l ++ [m]).length = l.length + 1 := by rw [List.length_append, toA_len]; rfl
    rw [e1] at hn ha ⊢
    have f := row_amts (Amts.front ha (by simp))
    rw [toA_len, ofA_toA] at f
    unfold maxLen at hm'
    exact ⟨g, cap, rfl, hn, hm', f, ha, hb⟩
theorem untouched_row (g cap n : Nat) (v : Value) (l : List Am) (m : Amt) (w : World) (hn : n = l.length) (hc : Amts w (.slice (some ⟨g, 0, none⟩) (n + 1) cap) (toA l ++ [m])) (hv : Row kAm w v l) (hm : Mark w m) :
    Calls Tryd.prog 13 #[.slice (some ⟨g, 0, none⟩) (n + 1) cap, v] w fun e w' => e = .returned (.bool true) ∧ Below w.heap.size w w' := by
  subst hn
  have q := untouched_yes g cap v (toA l) m w (by rw [toA_len]; exact hc) (amts_row hv) hm
  rw [toA_len] at q; exact q
end Go.Proofs.YtendjedlcobhlaaDoor
