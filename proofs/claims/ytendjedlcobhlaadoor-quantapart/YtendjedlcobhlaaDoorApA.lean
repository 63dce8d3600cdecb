/-
  Six lists of amounts of the call's own, all apart, in an array of its own (for QuantApart).
-/
import Derived.Test.YtendjedlcobhlaaDoorAdM
import Derived.Maps.AppendAt
namespace Go.Proofs.YtendjedlcobhlaaDoor
open Go.RowKit Go.Lib
open Go.Sort (grow)
def nilV : Value := .slice none 0 0
/-- Six lists, apart, in the array g7; what was there before it stays. -/
structure Sx (g7 : Nat) (W0 W : World) (vs : List Value) (Ls : List (List Am)) : Prop where
  box : W.heap[g7]? = some (.cells vs.toArray 25 (0, 0))
  vl : vs.length = 6
  ll : Ls.length = 6
  own : ∀ i, i < 6 → OwnR kAm (g7 + 1) W (vs.getD i nilV) (Ls.getD i [])
  ap : ∀ i j, i < 6 → j < 6 → i ≠ j → ∀ b, (vs.getD i nilV).ownBlock = some b → ¬ (vs.getD j nilV).ownBlock = some b
  bel : Below g7 W0 W
theorem getD_setL {α : Type} (l : List α) (i j : Nat) (y d : α) (hi : i < l.length) : (l.set i y).getD j d = if i = j then y else l.getD j d := by
  simp only [List.getD_eq_getElem?_getD, List.getElem?_set]
  by_cases h : i = j
  · subst h; simp [hi]
  · simp [h]
theorem Sx.lt {g7 : Nat} {W0 W : World} {vs : List Value} {Ls : List (List Am)} (h : Sx g7 W0 W vs Ls) : g7 < W.heap.size := (Array.getElem?_eq_some_iff.1 h.box).1
theorem Sx.start (W0 : World) : Sx W0.heap.size W0 (W0.alloc (.cells #[nilV, nilV, nilV, nilV, nilV, nilV] 25)) [nilV, nilV, nilV, nilV, nilV, nilV] [[], [], [], [], [], []] := by
  refine ⟨heap_alloc_new _ _, rfl, rfl, fun i hi => ?_, fun i j hi hj _ b hb => ?_, (Below.refl _ W0).alloc (Nat.le_refl _) _⟩
  · have e : ([nilV, nilV, nilV, nilV, nilV, nilV] : List Value).getD i nilV = nilV := by
      match i, hi with
      | 0, _ => rfl
      | 1, _ => rfl
      | 2, _ => rfl
      | 3, _ => rfl
      | 4, _ => rfl
      | 5, _ => rfl
    have e2 : ([[], [], [], [], [], []] : List (List Am)).getD i [] = [] := by
      match i, hi with
      | 0, _ => rfl
      | 1, _ => rfl
      | 2, _ => rfl
      | 3, _ => rfl
      | 4, _ => rfl
      | 5, _ => rfl
    rw [e, e2]; exact OwnR.nil _ _ _
  · have e : ([nilV, nilV, nilV, nilV, nilV, nilV] : List Value).getD i nilV = nilV := by
      match i, hi with
      | 0, _ => rfl
      | 1, _ => rfl
      | 2, _ => rfl
      | 3, _ => rfl
      | 4, _ => rfl
      | 5, _ => rfl
    rw [e] at hb
    simp [nilV, Value.ownBlock] at hb
theorem Sx.below {g7 : Nat} {W0 W W' : World} {vs : List Value} {Ls : List (List Am)} (h : Sx g7 W0 W vs Ls) (hb : Below W.heap.size W W') : Sx g7 W0 W' vs Ls :=
  ⟨(hb.block _ h.lt).trans h.box, h.vl, h.ll, fun i hi => (h.own i hi).below hb, h.ap, h.bel.trans (hb.mono (Nat.le_of_lt h.lt))⟩
/-- A new list is laid into the array. -/
theorem Sx.fill {g7 : Nat} {W0 W W' : World} {vs : List Value} {Ls : List (List Am)} (h : Sx g7 W0 W vs Ls) (hb : Below W.heap.size W W') {v : Value} {L : List Am} (ho : OwnR kAm W.heap.size W' v L) (i : Nat) (hi : i < 6) : Sx g7 W0 (W'.setCell ⟨g7, i, none⟩ v) (vs.set i v) (Ls.set i L) := by
  have h' := h.below hb
  have lt' := h.lt
  refine ⟨?_, by rw [List.length_set]; exact h.vl, by rw [List.length_set]; exact h.ll, fun j hj => ?_, fun j k hj hk hne b hb1 hb2 => ?_, h'.bel.setCell (p := ⟨g7, i, none⟩) (Nat.le_refl _) _⟩
  · rw [heap_setCell_same _ _ _ _ _ _ h'.box]
    congr 2
    apply Array.ext'
    simp
  · rw [getD_setL _ _ _ _ _ (by rw [h.vl]; exact hi), getD_setL _ _ _ _ _ (by rw [h.ll]; exact hi)]
    split
    · exact (ho.mono h.lt).kept (kept_set (F := fun y => y = g7) _ _ _ rfl) (fun k hk => by have := (ho.lt k hk).1; show ¬ k = g7; omega)
    · exact (h'.own j hj).kept (kept_set (F := fun y => y = g7) _ _ _ rfl) (fun k hk => by have := ((h'.own j hj).lt k hk).1; show ¬ k = g7; omega)
  · rw [getD_setL _ _ _ _ _ (by rw [h.vl]; exact hi)] at hb1 hb2
    split at hb1
    · rename_i e1
      split at hb2
      · rename_i e2; exact hne (e1.symm.trans e2)
      · have q1 := (ho.lt b hb1).1
        have q2 := ((h.own k hk).lt b hb2).2
        omega
    · split at hb2
      · have q1 := (ho.lt b hb2).1
        have q2 := ((h.own j hj).lt b hb1).2
        omega
      · exact h.ap j k hj hk hne b hb1 hb2
/-- One cell of a list is turned. -/
theorem Sx.cell {g7 : Nat} {W0 W : World} {vs : List Value} {Ls : List (List Am)} (h : Sx g7 W0 W vs Ls) (i : Nat) (hi : i < 6) {g n c : Nat} (hv : vs.getD i nilV = .slice (some ⟨g, 0, none⟩) n c) (j q : Nat) (hj : j < (Ls.getD i []).length) (hq : q < 2) (y : Am) (x : Value) (hy : kAm.c y = (kAm.c ((Ls.getD i []).getD j kAm.z)).set q x) : Sx g7 W0 (W.setCell ⟨g, j * 2 + q, none⟩ x) vs (Ls.set i ((Ls.getD i []).set j y)) := by
  have oi := h.own i hi
  rw [hv] at oi
  have hg := oi.lt g rfl
  refine ⟨?_, h.vl, by rw [List.length_set]; exact h.ll, fun k hk => ?_, h.ap, h.bel.setCell (p := ⟨g, j * 2 + q, none⟩) (show g7 ≤ g by omega) _⟩
  · rw [Below.heap_setCell _ _ _ _ (show g7 ≠ g by omega)]; exact h.box
  · rw [getD_setL _ _ _ _ _ (by rw [h.ll]; exact hi)]
    split
    · rename_i e
      subst e
      rw [hv]
      exact oi.set okAm j q hj hq y x hy
    · rename_i e
      refine (h.own k hk).kept (kept_set (F := fun y => y = g) _ _ _ rfl) (fun b hb => ?_)
      show ¬ b = g
      rintro rfl
      exact h.ap k i hk hi (fun z => e z.symm) b hb (by rw [hv]; rfl)
/-- A list has grown, and is laid into the array again. -/
theorem Sx.app {g7 : Nat} {W0 W W' : World} {vs : List Value} {Ls : List (List Am)} (h : Sx g7 W0 W vs Ls) (i : Nat) (hi : i < 6) {v : Value} {L : List Am} (ho : OwnR kAm (g7 + 1) W' v L) (hg : W.grownBy W' (vs.getD i nilV).ownBlock) (hat : v.ownBlock = (vs.getD i nilV).ownBlock ∨ v.ownBlock = some W.heap.size) : Sx g7 W0 (W'.setCell ⟨g7, i, none⟩ v) (vs.set i v) (Ls.set i L) := by
  have kp := grown_kept hg
  have oi := h.own i hi
  have hbox : W'.heap[g7]? = some (.cells vs.toArray 25 (0, 0)) := (kp.block g7 h.lt (fun e => by have := (oi.lt g7 e.symm).1; omega)).trans h.box
  refine ⟨?_, by rw [List.length_set]; exact h.vl, by rw [List.length_set]; exact h.ll, fun j hj => ?_, fun j k hj hk hne b hb1 hb2 => ?_, ?_⟩
  · rw [heap_setCell_same _ _ _ _ _ _ hbox]
    congr 2
    apply Array.ext'
    simp
  · rw [getD_setL _ _ _ _ _ (by rw [h.vl]; exact hi), getD_setL _ _ _ _ _ (by rw [h.ll]; exact hi)]
    split
    · exact ho.kept (kept_set (F := fun y => y = g7) _ _ _ rfl) (fun k hk => by have := (ho.lt k hk).1; show ¬ k = g7; omega)
    · rename_i e
      have oj := (h.own j hj).kept kp (fun k hk q => h.ap j i hj hi (fun z => e z.symm) k hk q.symm)
      exact oj.kept (kept_set (F := fun y => y = g7) _ _ _ rfl) (fun k hk => by have := (oj.lt k hk).1; show ¬ k = g7; omega)
  · rw [getD_setL _ _ _ _ _ (by rw [h.vl]; exact hi)] at hb1 hb2
    have key : ∀ q, q < 6 → ¬ i = q → (vs.getD q nilV).ownBlock = some b → v.ownBlock = some b → False := by
      intro q hq hiq h1 h2
      rcases hat with e | e
      · exact h.ap q i hq hi (fun z => hiq z.symm) b h1 (by rw [← e]; exact h2)
      · rw [e] at h2
        injection h2 with h2
        have := ((h.own q hq).lt b h1).2
        omega
    split at hb1
    · rename_i e1
      split at hb2
      · rename_i e2; exact hne (e1.symm.trans e2)
      · rename_i e2; exact key k hk e2 hb2 hb1
    · rename_i e1
      split at hb2
      · exact key j hj e1 hb1 hb2
      · exact h.ap j k hj hk hne b hb1 hb2
  · have q : Below g7 W W' := (Below.refl g7 W).grown hg (Nat.le_of_lt h.lt) (fun k hk => by have := (oi.lt k hk).1; omega)
    exact (h.bel.trans q).setCell (p := ⟨g7, i, none⟩) (Nat.le_refl _) _
/-- An append of two amounts, as a step of a drawn region. -/
theorem step_app2 {ops : Array Oper} {o : Oper} {a : Act} {w : World} {K : Act → World → Prop} {Q : Exit → Act → World → Prop} {E : Prop} (hgd : o.guard = none) (so x : Operand)
    (ho : o.op = .call { callee := .builtin .append, args := #[so, x], argTypes := #[22, 22] })
    {B : Nat} {v : Value} {L : List Am} (hs : a.eval so = v) (hown : OwnR kAm B w v L) (hB : B ≤ w.heap.size) (p q : Am) {cs : Array Value} (hcs : cs = (cellsR kAm [p, q]).toArray) (hx : a.eval x = .slice (some ⟨w.heap.size, 0, none⟩) 2 2) (hl : (L.length + 2) * 24 ≤ 140737488355328)
    (h : ∀ a' n' c' w', Hid (OwnR kAm B w' (.slice a' n' c') (L ++ [p, q]) ∧ (w.alloc (.cells cs 32)).grownBy w' v.ownBlock ∧ ((Value.slice a' n' c').ownBlock = v.ownBlock ∨ (Value.slice a' n' c').ownBlock = some (w.alloc (.cells cs 32)).heap.size)) → K (a.put o.dst (.slice a' n' c')) w') :
    if Region.wanted o (yielded ops a.tmps) = true then Oper.wp Tryd.prog o a (w.alloc (.cells cs 32)) K Q else E := by
  subst hcs
  have hw : Region.wanted o (yielded ops a.tmps) = true := by simp [Region.wanted, hgd]
  rw [if_pos hw]
  obtain ⟨zv, hinf, hzc⟩ := okAm.inf
  obtain ⟨i0, hi, hz0, hz1, hz2⟩ := info_parts hinf
  obtain ⟨v', w', hr, h2, h3, _, h5⟩ := run_append_own_at (P := Tryd.prog) (w.alloc (.cells (cellsR kAm [p, q]).toArray 32)) B 22 o.type 32 i0 zv 2 24 Tryd.underlying22 hi hz0 hz1 hz2 hzc (by decide) v L.length (cellsR kAm L) (World.ownsRow.alloc hown _) ⟨w.heap.size, 0, none⟩ 2 2 (cellsR kAm [p, q]) rfl (by
    intro j u hj
    rw [add_plain, Nat.zero_add, World.cell?_alloc_new, ← Array.getElem?_toList]; exact hj) (cellsR_one okAm [p, q]) (by unfold maxLen; omega) hl (by simp; omega)
  unfold Oper.wp execOp
  simp only [ho, resolve, invoke, builtin, Sem.run_bind, Sem.run_pure, Result.andThen_ok, List.map_toArray, List.map_cons, List.map_nil, hs, hx, hr]
  have o2 : OwnR kAm B w' v' (L ++ [p, q]) := by
    show w'.ownsRow _ _ _ _ _ _
    rw [cellsR_app, List.length_append]; exact h2
  obtain ⟨a7, c7, e7⟩ := o2.slice
  subst e7
  exact h a7 _ c7 w' (Lib.hid ⟨o2, h3, h5⟩)
end Go.Proofs.YtendjedlcobhlaaDoor
