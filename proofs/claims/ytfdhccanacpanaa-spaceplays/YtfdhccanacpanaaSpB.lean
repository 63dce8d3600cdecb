/-
  ROWS OF NUMBERS of the call's own; numbers behind them.
-/
import Derived.Test.YtfdhccanacpanaaSpM
import Derived.Deep.MidRow
import Derived.Lib.Hide
namespace Go.Proofs.Ytfdhccanacpanaa
open Go.RowKit
def cellsI (l : List Int) : List Value := l.map (.int .i64 ·)
theorem cellsI_length (l : List Int) : (cellsI l).length = l.length := by simp [cellsI]
theorem cellsI_app (l m : List Int) : cellsI (l ++ m) = cellsI l ++ cellsI m := by simp [cellsI]
theorem cellsI_one (l : List Int) : ∀ v ∈ cellsI l, v.oneCell' = true := by
  intro v hv; simp only [cellsI, List.mem_map] at hv; obtain ⟨c, _, rfl⟩ := hv; rfl
theorem info_int : (Try.prog.info? 3).map (fun i => (i.zero, i.size, i.bytes)) = some (some (.int .i64 0), 1, 8) := by kernel_rfl
theorem lt_of_heap {w : World} {k : Nat} {o : Obj} (h : w.heap[k]? = some o) : k < w.heap.size := (Array.getElem?_eq_some_iff.1 h).1
/-- The slice v is the call's own and holds the numbers l. -/
def OwnI (B : Nat) (w : World) (v : Value) (l : List Int) : Prop := w.ownsRow B 3 1 v l.length (cellsI l)
/-- The slice v holds the numbers l. -/
def Ints (w : World) (v : Value) (l : List Int) : Prop :=
  ∃ a cap, v = .slice a l.length cap ∧ l.length ≤ cap ∧ cap ≤ maxLen ∧ (a = none → cap = 0) ∧ ∀ k, k < l.length → ∃ b off, a = some ⟨b, off, none⟩ ∧ w.cell? ⟨b, off + k, none⟩ = some (.int .i64 (l.getD k 0))
theorem OwnI.ints {B : Nat} {w : World} {v : Value} {l : List Int} (H : OwnI B w v l) : Ints w v l := by
  obtain ⟨_, ⟨hv, hn⟩ | ⟨g, cap, cur, hv, hb, hg, hn, hm, hs, ht⟩⟩ := H
  · exact ⟨none, 0, by rw [hv, hn], by omega, by decide, fun _ => rfl, fun k hk => by omega⟩
  · refine ⟨_, cap, hv, hn, hm, fun h => by simp at h, fun k hk => ⟨g, 0, rfl, ?_⟩⟩
    rw [cell_of_row w g (0 + k) cur _ _ hg, Nat.zero_add, ← Array.getElem?_toList]
    have h1 : (cur.toList.take (l.length * 1))[k]? = cur.toList[k]? := by rw [List.getElem?_take_of_lt (by omega)]
    rw [← h1, ht]
    simp [cellsI, hk]
theorem Ints.below {w w' : World} {v : Value} {l : List Int} (H : Ints w v l) (hb : Below w.heap.size w w') : Ints w' v l := by
  obtain ⟨a, cap, e, h1, h2, h0, h3⟩ := H
  refine ⟨a, cap, e, h1, h2, h0, fun k hk => ?_⟩
  obtain ⟨b, off, ea, hc⟩ := h3 k hk
  exact ⟨b, off, ea, by rw [hb.cell (p := ⟨b, off + k, none⟩) (block_lt_of_cell hc)]; exact hc⟩
theorem OwnI.lt {B : Nat} {w : World} {v : Value} {l : List Int} (h : OwnI B w v l) : ∀ k, v.ownBlock = some k → B ≤ k ∧ k < w.heap.size := World.ownsRow.lt h
theorem OwnI.kept {B : Nat} {F : Nat → Prop} {w w' : World} {v : Value} {l : List Int} (H : OwnI B w v l) (hk : Kept F w w') (hF : ∀ k, v.ownBlock = some k → ¬ F k) : OwnI B w' v l := by
  obtain ⟨h1, h | ⟨g, cap, cur, hv, hB, hg, hr⟩⟩ := H
  · exact ⟨h1, .inl h⟩
  · subst hv
    exact ⟨h1, .inr ⟨g, cap, cur, rfl, hB, by rw [hk.block g (lt_of_heap hg) (hF g rfl)]; exact hg, hr⟩⟩
theorem OwnI.below {B : Nat} {w w' : World} {v : Value} {l : List Int} (H : OwnI B w v l) (hb : Below w.heap.size w w') : OwnI B w' v l :=
  H.kept (Below.kept hb (fun _ => False)) fun _ _ h => h
theorem OwnI.mono {B B' : Nat} {w : World} {v : Value} {l : List Int} (H : OwnI B w v l) (h : B' ≤ B) : OwnI B' w v l := by
  obtain ⟨h1, h2 | ⟨g, cap, cur, hv, hB, hr⟩⟩ := H
  · exact ⟨h1, .inl h2⟩
  · exact ⟨h1, .inr ⟨g, cap, cur, hv, Nat.le_trans h hB, hr⟩⟩
theorem OwnI.nil (B : Nat) (w : World) : OwnI B w (.slice none 0 0) [] := World.ownsRow_nil _ _ _ _
theorem OwnI.row {B : Nat} {w : World} {v : Value} {l : List Int} (h : OwnI B w v l) {g : Nat} (hg : v.ownBlock = some g) : ∃ cur, w.heap[g]? = some (.cells cur 3 (0, 0)) := by
  obtain ⟨_, ⟨hv, _⟩ | ⟨g', cap, cur, hv, _, hh, _⟩⟩ := h
  · rw [hv] at hg; cases hg
  · rw [hv] at hg
    have e1 : g' = g := by injection hg
    subst e1
    exact ⟨cur, hh⟩
theorem OwnI.len {B : Nat} {w : World} {v : Value} {l : List Int} (h : OwnI B w v l) : ∃ a cap, v = .slice a l.length cap ∧ l.length ≤ cap ∧ cap ≤ 9223372036854775807 := by
  obtain ⟨a, cap, h1, h2, h3, _⟩ := h.ints
  exact ⟨a, cap, h1, h2, by unfold maxLen at h3; omega⟩
theorem newsI {w : World} {a : Addr} {l : List Int}
    (h : ∀ k, k < l.length → ∃ b off, some a = some (⟨b, off, none⟩ : Addr) ∧ w.cell? ⟨b, off + k, none⟩ = some (.int .i64 (l.getD k 0))) :
    ∀ j v, (cellsI l)[j]? = some v → w.cell? (a.add j) = some v := by
  intro j v hv
  have hj : j < l.length := by
    rcases Nat.lt_or_ge j l.length with q | q
    · exact q
    · rw [List.getElem?_eq_none (by rw [cellsI_length]; exact q)] at hv; simp at hv
  obtain ⟨b, off, ha, hc⟩ := h j hj
  obtain rfl : a = ⟨b, off, none⟩ := by simpa using ha
  have e : (cellsI l)[j]? = some (.int .i64 (l.getD j 0)) := by simp [cellsI, hj]
  rw [e] at hv
  rw [add_plain, hc]; exact hv
theorem own_ints {B : Nat} {w : World} {g n : Nat} {l : List Int} (h : w.heap[g]? = some (.cells (cellsI l).toArray 3 (0, 0))) (hB : B ≤ g) (hn : l.length = n) (hm : n ≤ maxLen) : OwnI B w (.slice (some ⟨g, 0, none⟩) n n) l := by
  subst hn
  refine ⟨by rw [cellsI_length, Nat.mul_one], .inr ⟨g, l.length, _, rfl, hB, h, Nat.le_refl _, hm, by simp [cellsI_length], ?_⟩⟩
  rw [Nat.mul_one]
  exact List.take_of_length_le (by simp [cellsI_length])
/-- Numbers behind a row of the call's own. -/
theorem app_ints {ops : Array Oper} {rest : List Oper} {o : Oper} {a : Act} {Q : Exit → Act → World → Prop} (hgd : o.guard = none) (s x : Operand)
    (ho : o.op = .call { callee := .builtin .append, args := #[s, x], argTypes := #[27, 27] })
    {B : Nat} {w : World} {v u : Value} {l m : List Int} (hs : a.eval s = v) (hown : OwnI B w v l) (hB : B ≤ w.heap.size) (hx : a.eval x = u) (hu : Ints w u m) (hl : l.length + m.length ≤ 17592186040320)
    (h : ∀ v' w', OwnI B w' v' (l ++ m) → w.grownBy w' v.ownBlock → At v v' w → wpList Try.prog ops Q rest (a.put o.dst v') w') :
    wpList Try.prog ops Q (o :: rest) a w := by
  obtain ⟨i0, hi, hz0, hz1, hz2⟩ := info_parts info_int
  obtain ⟨ad, cap, rfl, hlc, hcm, hn, hc⟩ := hu
  cases ad with
  | none =>
    obtain rfl := hn rfl
    obtain rfl : m = [] := by simpa using hlc
    refine wpList_append_own_none hgd s x 27 ho B 3 i0 1 Try.underlying27 hi v l.length (cellsI l) hs hown hx ?_
    exact h v w (by simpa using hown) ⟨rfl, rfl, rfl, Nat.le_refl _, fun _ _ _ => rfl⟩ (At.refl _ _)
  | some ad =>
    refine wpList_append_own_at w hgd s x 27 ho B 3 i0 (.int .i64 0) 1 8 Try.underlying27 hi hz0 hz1 hz2 rfl (by decide) v l.length (cellsI l) hs hown ad m.length cap (cellsI m) hx (by rw [cellsI_length]; omega) (newsI hc) (cellsI_one m) (by unfold maxLen; omega) (by omega) hB ?_
    intro v' w' h1 h2 _ h3
    refine h v' w' ?_ h2 (at_of h3 (Nat.le_refl _))
    show w'.ownsRow _ _ _ _ _ _
    rw [cellsI_app, List.length_append]; exact h1
theorem new_ints (w : World) (m : List Int) (hm : m.length ≤ maxLen) : Ints (w.alloc (.cells (cellsI m).toArray 3)) (.slice (some ⟨w.heap.size, 0, none⟩) m.length m.length) m := by
  refine ⟨_, _, rfl, Nat.le_refl _, hm, fun h => by simp at h, fun k hk => ⟨w.heap.size, 0, rfl, ?_⟩⟩
  rw [Nat.zero_add, World.cell?_alloc_new]
  simp [cellsI, hk]
/-- Numbers that were just laid, behind a row. -/
theorem app_new {ops : Array Oper} {rest : List Oper} {o : Oper} {a : Act} {Q : Exit → Act → World → Prop} (hgd : o.guard = none) (s x : Operand)
    (ho : o.op = .call { callee := .builtin .append, args := #[s, x], argTypes := #[27, 27] })
    {B : Nat} {w0 W : World} {v u : Value} {l m : List Int} (hW : W = w0.alloc (.cells (cellsI m).toArray 3)) (hs : a.eval s = v) (hown : OwnI B w0 v l) (hB : B ≤ w0.heap.size) (hx : a.eval x = u) (hu : u = .slice (some ⟨w0.heap.size, 0, none⟩) m.length m.length) (hl : l.length + m.length ≤ 17592186040320)
    (h : ∀ v' w', OwnI B w' v' (l ++ m) → w0.grownBy w' v.ownBlock → At v v' w0 → wpList Try.prog ops Q rest (a.put o.dst v') w') :
    wpList Try.prog ops Q (o :: rest) a W := by
  subst hu hW
  refine app_ints hgd s x ho hs (hown.below ((Below.refl _ _).alloc (Nat.le_refl _) _)) (by simp; omega) hx (new_ints w0 m (by unfold maxLen; omega)) hl ?_
  intro v' w' h1 h2 h3
  refine h v' w' h1 (grown_alloc h2) fun k hk => ?_
  rcases h3 k hk with q | q
  · exact Or.inl q
  · exact Or.inr (by simp at q; omega)
end Go.Proofs.Ytfdhccanacpanaa
