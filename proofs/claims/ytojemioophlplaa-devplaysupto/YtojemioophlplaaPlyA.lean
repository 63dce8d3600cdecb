/-
  The statements' own: play.
-/
import Derived.Test.YtojemioophlplaaBlkA
import Derived.Deep.RegionHeldLaw
namespace Go.Proofs.Ytojemioophlplaa
open Go.RowKit Go.Maps
/-- The step's own memory. -/
def OpD.At (o : OpD) (w : World) : Prop := Bytes w o.bv o.bs ∧ Fts w o.fv o.fs ∧ o.bs.length ≤ 140737488355328 ∧ o.fs.length * 16 ≤ 140737488355328
/-- What play does. -/
def Step (s : DS) (o : OpD) (s' : DS) (r : Int) : Prop :=
  (o.kind = 3 ∧ (s', r) = wrE s o.blk (blkB o)) ∨ (o.kind = 4 ∧ (s', r) = flD s) ∨ (o.kind = 9 ∧ (s', r) = edD s o.blk o.n o.bs) ∨ (o.kind = 6 ∧ (s', r) = armD s o.n) ∨ (o.kind = 8 ∧ s' = crD s o.fs ∧ r = 0) ∨ (o.kind ≠ 3 ∧ o.kind ≠ 4 ∧ o.kind ≠ 9 ∧ o.kind ≠ 6 ∧ o.kind ≠ 8 ∧ s' = s ∧ r = 0)
/-- What a call on the device leaves. -/
def Left (B : Nat) (w : World) (d mb mp : Nat) (cv : Value) (w' : World) (s' : DS) : Prop := ∃ cv', Dv B w' d mb mp cv' s' ∧ Kept (Foot d mb mp cv) w w' ∧ At cv cv' w
theorem info_fate : (Try.prog.info? 49).map (fun i => (i.zero, i.size, i.bytes)) = some (some (.agg #[.int .i64 0, .int .i64 0]), 2, 16) := by kernel_rfl
def cellsF (fs : List (Int × Int)) : List Value := fs.flatMap fun x => [.int .i64 x.1, .int .i64 x.2]
theorem cellsF_length (fs : List (Int × Int)) : (cellsF fs).length = fs.length * 2 := by
  induction fs with
  | nil => rfl
  | cons x l ih =>
    have : cellsF (x :: l) = [.int .i64 x.1, .int .i64 x.2] ++ cellsF l := rfl
    rw [this, List.length_append, ih, List.length_cons]
    simp only [List.length_cons, List.length_nil]
    omega
theorem cellsF_at : ∀ (fs : List (Int × Int)) (k i : Nat), k < fs.length → i < 2 → (cellsF fs)[k * 2 + i]? = [Value.int .i64 (fs.getD k (0, 0)).1, .int .i64 (fs.getD k (0, 0)).2][i]?
  | [], k, i, h, _ => by simp at h
  | x :: l, 0, i, _, hi => by
    have : cellsF (x :: l) = [.int .i64 x.1, .int .i64 x.2] ++ cellsF l := rfl
    rw [this, Nat.zero_mul, Nat.zero_add, List.getElem?_append_left (by simpa using hi)]
    rfl
  | x :: l, k + 1, i, h, hi => by
    have : cellsF (x :: l) = [.int .i64 x.1, .int .i64 x.2] ++ cellsF l := rfl
    rw [this, List.getElem?_append_right (by simp only [List.length_cons, List.length_nil]; omega)]
    have e : (k + 1) * 2 + i - [Value.int .i64 x.1, .int .i64 x.2].length = k * 2 + i := by simp only [List.length_cons, List.length_nil]; omega
    rw [e, cellsF_at l k i (by simpa using h) hi]
    rfl
theorem fts_own {B : Nat} {w : World} {v : Value} {fs : List (Int × Int)} (H : w.ownsRow B 49 2 v fs.length (cellsF fs)) : Fts w v fs := by
  obtain ⟨_, ⟨hv, hn⟩ | ⟨g, cap, cur, hv, hb, hg, hn, hm, hs, ht⟩⟩ := H
  · exact ⟨none, 0, by rw [hv, hn], by omega, by decide, fun _ => rfl, fun k hk => by omega⟩
  · refine ⟨_, cap, hv, hn, hm, (fun h => by cases h), fun k hk => ⟨g, 0, rfl, ?_, ?_⟩⟩
    · have := cellsF_at fs k 0 hk (by decide)
      rw [Nat.add_zero] at this
      rw [cell_of_row w g _ cur _ _ hg, Nat.zero_add, ← Array.getElem?_toList, ← List.getElem?_take_of_lt (j := fs.length * 2) (by omega), ht, this]
      rfl
    · have := cellsF_at fs k 1 hk (by decide)
      rw [cell_of_row w g _ cur _ _ hg, Nat.zero_add, ← Array.getElem?_toList, ← List.getElem?_take_of_lt (j := fs.length * 2) (by omega), ht, this]
      rfl
/-- A copy of the fates. -/
theorem copy_fts {ops : Array Oper} {rest : List Oper} {o : Oper} {a : Act} {Q : Exit → Act → World → Prop} (hgd : o.guard = none) (s y : Operand)
    (ho : o.op = .call { callee := .builtin .append, args := #[s, y], argTypes := #[31, 31] })
    {w0 : World} {v : Value} {fs : List (Int × Int)} (hs : a.eval s = .slice none 0 0) (hv : Fts w0 v fs) (hy : a.eval y = v) (hl : fs.length * 16 ≤ 140737488355328)
    (h : ∀ v' w', Hid (w'.ownsRow w0.heap.size 49 2 v' fs.length (cellsF fs) ∧ Below w0.heap.size w0 w') → wpList Try.prog ops Q rest (a.put o.dst v') w') :
    wpList Try.prog ops Q (o :: rest) a w0 := by
  obtain ⟨i0, hi, hz0, hz1, hz2⟩ := info_parts info_fate
  obtain ⟨ad, cap, rfl, hlc, hcm, hn, hc⟩ := hv
  cases ad with
  | none =>
    obtain rfl := hn rfl
    obtain rfl : fs = [] := by simpa using hlc
    refine wpList_append_own_none hgd s y 31 ho w0.heap.size 49 i0 2 Try.underlying31 hi (.slice none 0 0) 0 [] hs (World.ownsRow_nil _ _ _ _) hy ?_
    exact h _ w0 ⟨World.ownsRow_nil _ _ _ _, Below.refl _ _⟩
  | some ad =>
    refine wpList_append_own_at w0 hgd s y 31 ho w0.heap.size 49 i0 _ 2 16 Try.underlying31 hi hz0 hz1 hz2 rfl (by decide) (.slice none 0 0) 0 [] hs (World.ownsRow_nil _ _ _ _) ad fs.length cap (cellsF fs) hy (cellsF_length fs) ?_ ?_ (by unfold maxLen; omega) (by omega) (Nat.le_refl _) ?_
    · intro j u hj
      have hj' : j < fs.length * 2 := by have := (List.getElem?_eq_some_iff.1 hj).1; rw [cellsF_length] at this; exact this
      obtain ⟨b, off, e, h0, h1⟩ := hc (j / 2) (by omega)
      cases e
      rw [add_plain]
      have ej : j = j / 2 * 2 + j % 2 := by omega
      have q := cellsF_at fs (j / 2) (j % 2) (by omega) (by omega)
      rw [← ej, hj] at q
      rcases (show j % 2 = 0 ∨ j % 2 = 1 by omega) with e0 | e0
      · rw [e0] at q
        have : off + j = off + j / 2 * 2 := by omega
        rw [this, h0]; exact q.symm
      · rw [e0] at q
        have : off + j = off + j / 2 * 2 + 1 := by omega
        rw [this, h1]; exact q.symm
    · intro u hu
      unfold cellsF at hu
      obtain ⟨x, _, hx⟩ := List.mem_flatMap.1 hu
      simp only [List.mem_cons, List.not_mem_nil, or_false] at hx
      rcases hx with rfl | rfl <;> rfl
    · intro v' w' h1 h2 _ _
      refine h v' w' ⟨?_, (Below.refl _ w0).grown h2 (Nat.le_refl _) (by intro k hk; cases hk)⟩
      simpa using h1
theorem step_dup {w : World} {ops : Array Oper} {o : Oper} {a : Act} {K : Act → World → Prop} {Q : Exit → Act → World → Prop} {E : Prop} (hgd : o.guard = none) (s y : Operand)
    (ho : o.op = .call { callee := .builtin .append, args := #[s, y], argTypes := #[30, 30] }) {v : Value} {l : List UInt8} (hs : a.eval s = .slice none 0 0) (hv : Bytes w v l) (hy : a.eval y = v) (hl : l.length ≤ 140737488355328)
    (h : ∀ v' w', Hid (Own w.heap.size w' v' l ∧ Below w.heap.size w w') → K (a.put o.dst v') w') :
    if Region.wanted o (yielded ops a.tmps) = true then Oper.wp Try.prog o a w K Q else E := by
  have hw : Region.wanted o (yielded ops a.tmps) = true := by simp [Region.wanted, hgd]
  rw [if_pos hw]
  obtain ⟨i0, hi, hz0, hz1, hz2⟩ := info_parts info_byte
  obtain ⟨ad, cap, rfl, hlc, hcm, hn, hc⟩ := hv
  cases ad with
  | none =>
    obtain rfl := hn rfl
    obtain rfl : l = [] := by simpa using hlc
    have hrun := run_append_owned_none (P := Try.prog) (w := w) w.heap.size 30 o.type 5 i0 1 Try.underlying30 hi (.slice none 0 0) 0 [] (World.ownsRow_nil _ _ _ _)
    unfold Oper.wp
    simp [execOp, ho, resolve, invoke, builtin, hs, hy, hrun, Result.andThen]
    exact h _ w ⟨World.ownsRow_nil _ _ _ _, Below.refl _ _⟩
  | some ad =>
    obtain ⟨v', w', hr, h1, h2, _, h3⟩ := run_append_own_at (P := Try.prog) w w.heap.size 30 o.type 5 i0 (.int .u8 0) 1 1 Try.underlying30 hi hz0 hz1 hz2 rfl (by decide) (.slice none 0 0) 0 [] (World.ownsRow_nil _ _ _ _) ad l.length cap (cells8 l) (by rw [cells8_length]; omega) (news8 hc) (cells8_one l) (by unfold maxLen; omega) (by omega) (Nat.le_refl _)
    unfold Oper.wp execOp
    simp only [ho, resolve, invoke, builtin, Sem.run_bind, Sem.run_pure, Result.andThen_ok, List.map_toArray, List.map_cons, List.map_nil, hs, hy, hr]
    refine h v' w' ⟨?_, (Below.refl _ w).grown h2 (Nat.le_refl _) (by intro k hk; cases hk)⟩
    show w'.ownsRow _ _ _ _ _ _
    simpa using h1
end Go.Proofs.Ytojemioophlplaa
