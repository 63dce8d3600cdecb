/-
  Rows of elements of any kind: in memory, of the call's own, appended to.
-/
import Derived.Test.YtodfmnbfbndkhaaGreatDoorBase2
import Derived.Lib.Hide
import Derived.Maps.OwnSet
import Derived.Maps.OwnOps
import Derived.Maps.Own
import Derived.Maps.Views
namespace Go.Proofs.YtodfmnbfbndkhaaGreatDoor
open Go.RowKit
/-- A kind of element: its cells, how many, its type, the slice's type, its bytes, a default. -/
structure Kd (α : Type) where
  c : α → List Value
  k : Nat
  t : TypeId
  s : TypeId
  b : Nat
  z : α
structure Kd.Ok {α : Type} (K : Kd α) : Prop where
  len : ∀ x, (K.c x).length = K.k
  pos : 0 < K.k
  one : ∀ x, ∀ u ∈ K.c x, u.oneCell' = true
  und : Tryz.prog.underlying K.s = some (.slice K.t)
  inf : ∃ zv : Value, (Tryz.prog.info? K.t).map (fun i => (i.zero, i.size, i.bytes)) = some (some zv, K.k, K.b) ∧ zv.cells.size = K.k
  by0 : 0 < K.b ∧ K.b ≤ 1024
/-- The slice v holds the elements xs. -/
def Row {α : Type} (K : Kd α) (w : World) (v : Value) (xs : List α) : Prop :=
  ∃ a cap, v = .slice a xs.length cap ∧ xs.length ≤ cap ∧ cap ≤ maxLen ∧ (a = none → cap = 0) ∧ (∀ k, k < xs.length → ∃ b off, a = some ⟨b, off, none⟩ ∧ ∀ j y, (K.c (xs.getD k K.z))[j]? = some y → w.cell? ⟨b, off + k * K.k + j, none⟩ = some y)
variable {α : Type} {K : Kd α}
theorem Row.below {w w' : World} {v : Value} {xs : List α} (H : Row K w v xs) (hb : Below w.heap.size w w') : Row K w' v xs := by
  obtain ⟨a, cap, e, h1, h2, h0, h3⟩ := H
  refine ⟨a, cap, e, h1, h2, h0, fun k hk => ?_⟩
  obtain ⟨b, off, ea, hc⟩ := h3 k hk
  refine ⟨b, off, ea, fun j y hy => ?_⟩
  have h := hc j y hy
  rw [hb.cell (block_lt_of_cell h)]; exact h
theorem Row.len {w : World} {v : Value} {xs : List α} (H : Row K w v xs) : ∃ a cap, v = .slice a xs.length cap ∧ xs.length ≤ cap ∧ cap ≤ maxLen := by
  obtain ⟨a, cap, h, h1, h2, _⟩ := H; exact ⟨a, cap, h, h1, h2⟩
theorem Row.at {w : World} {a : Option Addr} {n cap : Nat} {xs : List α} (H : Row K w (.slice a n cap) xs) (k : Nat) (hk : k < xs.length) :
    ∃ b off, a = some ⟨b, off, none⟩ ∧ ∀ j y, (K.c (xs.getD k K.z))[j]? = some y → w.cell? ⟨b, off + k * K.k + j, none⟩ = some y := by
  obtain ⟨a', cap', e', _, _, _, hc⟩ := H
  simp only [Value.slice.injEq] at e'
  obtain ⟨rfl, rfl, rfl⟩ := e'
  exact hc k hk
theorem Row.nil (w : World) : Row K w (.slice none 0 0) [] := ⟨none, 0, rfl, by simp, by decide, fun _ => rfl, fun k hk => by simp at hk⟩
theorem Row.zero {w : World} {v : Value} {xs : List α} (H : Row K w v xs) (h : xs.length = 0) (w' : World) : Row K w' v xs := by
  obtain ⟨a, cap, e, h1, h2, h0, h3⟩ := H
  exact ⟨a, cap, e, h1, h2, h0, fun k hk => by omega⟩
def cellsR (K : Kd α) (xs : List α) : List Value := xs.flatMap K.c
theorem cellsR_length (ok : K.Ok) (xs : List α) : (cellsR K xs).length = xs.length * K.k := by
  induction xs with
  | nil => simp [cellsR]
  | cons x r ih => rw [cellsR, List.flatMap_cons, ← cellsR, List.length_append, ih, List.length_cons, ok.len, Nat.succ_mul, Nat.add_comm]
theorem cellsR_at (ok : K.Ok) (xs : List α) (k : Nat) (h : k < xs.length) (j : Nat) (hj : j < K.k) : (cellsR K xs)[k * K.k + j]? = (K.c (xs.getD k K.z))[j]? := by
  induction xs generalizing k with
  | nil => simp at h
  | cons x r ih =>
    rw [cellsR, List.flatMap_cons, ← cellsR]
    cases k with
    | zero => rw [Nat.zero_mul, Nat.zero_add, List.getElem?_append_left (by rw [ok.len]; exact hj)]; rfl
    | succ k =>
      have := ih k (by simp at h; omega)
      rw [List.getElem?_append_right (by rw [ok.len, Nat.succ_mul]; omega), ok.len, Nat.succ_mul, show k * K.k + K.k + j - K.k = k * K.k + j by omega]
      simpa using this
theorem cellsR_one (ok : K.Ok) (xs : List α) : ∀ u ∈ cellsR K xs, u.oneCell' = true := by
  intro u hu
  obtain ⟨x, _, hx⟩ := List.mem_flatMap.1 hu
  exact ok.one x u hx
theorem cellsR_app (xs ys : List α) : cellsR K (xs ++ ys) = cellsR K xs ++ cellsR K ys := by simp [cellsR]
theorem cellsR_single (x : α) : cellsR K [x] = K.c x := by simp [cellsR]
/-- The row is the call's own. -/
def OwnR (K : Kd α) (B : Nat) (w : World) (v : Value) (xs : List α) : Prop := w.ownsRow B K.t K.k v xs.length (cellsR K xs)
theorem OwnR.nil (K : Kd α) (B : Nat) (w : World) : OwnR K B w (.slice none 0 0) [] := World.ownsRow_nil _ _ _ _
theorem OwnR.row (ok : K.Ok) {B : Nat} {w : World} {v : Value} {xs : List α} (H : OwnR K B w v xs) : Row K w v xs := by
  obtain ⟨_, ⟨hv, hn⟩ | ⟨g, cap, cur, hv, hb, hg, hn, hm, hs, ht⟩⟩ := H
  · exact ⟨none, 0, by rw [hv, hn], by omega, by decide, fun _ => rfl, fun k hk => by omega⟩
  · have hcell : ∀ j u, (cellsR K xs)[j]? = some u → w.cell? ⟨g, 0 + j, none⟩ = some u := by
      intro j u hj
      rw [← ht, List.getElem?_take] at hj
      split at hj
      · simp [World.cell?, hg]
        simpa using hj
      · cases hj
    refine ⟨_, cap, hv, hn, hm, (fun h => by cases h), fun k hk => ⟨g, 0, rfl, fun j y hy => ?_⟩⟩
    have hj : j < K.k := by
      rcases Nat.lt_or_ge j K.k with q | q
      · exact q
      · rw [List.getElem?_eq_none (by rw [ok.len]; exact q)] at hy; simp at hy
    rw [Nat.add_assoc]
    exact hcell _ _ ((cellsR_at ok xs k hk j hj).trans hy)
theorem OwnR.below {B : Nat} {w w' : World} {v : Value} {l : List α} (H : OwnR K B w v l) (hb : Below w.heap.size w w') : OwnR K B w' v l := owns_below H hb
theorem OwnR.lt {B : Nat} {w : World} {v : Value} {l : List α} (h : OwnR K B w v l) : ∀ k, v.ownBlock = some k → B ≤ k ∧ k < w.heap.size := World.ownsRow.lt h
theorem OwnR.mono {B B' : Nat} {w : World} {v : Value} {l : List α} (H : OwnR K B w v l) (h : B' ≤ B) : OwnR K B' w v l := by
  obtain ⟨h1, h2 | ⟨g, cap, cur, hv, hB, hr⟩⟩ := H
  · exact ⟨h1, .inl h2⟩
  · exact ⟨h1, .inr ⟨g, cap, cur, hv, by omega, hr⟩⟩
theorem OwnR.slice {B : Nat} {w : World} {v : Value} {l : List α} (H : OwnR K B w v l) : ∃ a cap, v = .slice a l.length cap := by
  obtain ⟨_, ⟨hv, hn⟩ | ⟨g, cap, cur, hv, _⟩⟩ := H
  · exact ⟨none, 0, by rw [hv, hn]⟩
  · exact ⟨_, cap, hv⟩
theorem grown_belowR {B : Nat} {w w' : World} {v : Value} {l : List α} (h : w.grownBy w' v.ownBlock) (ho : OwnR K B w v l) (hB : B ≤ w.heap.size) : Below B w w' :=
  (Below.refl B w).grown h hB (fun k hk => (ho.lt k hk).1)
/-- The block of a row has the elements' type. -/
theorem OwnR.ty {B : Nat} {w : World} {v : Value} {l : List α} (H : OwnR K B w v l) : ∀ k, v.ownBlock = some k → ∃ cs m, w.heap[k]? = some (.cells cs K.t m) := by
  obtain ⟨_, ⟨hv, _⟩ | ⟨g, cap, cur, hv, _, hg, _⟩⟩ := H
  · subst hv; intro k hk; simp [Value.ownBlock] at hk
  · subst hv
    intro k hk
    simp only [Value.ownBlock, Option.some.injEq] at hk
    exact ⟨_, _, by rw [← hk]; exact hg⟩
theorem OwnR.kept {B : Nat} {F : Nat → Prop} {w w' : World} {v : Value} {l : List α} (H : OwnR K B w v l) (hk : Kept F w w') (hF : ∀ k, v.ownBlock = some k → ¬ F k) : OwnR K B w' v l := by
  obtain ⟨h1, h | ⟨g, cap, cur, hv, hB, hg, hr⟩⟩ := H
  · exact ⟨h1, .inl h⟩
  · have hlt : g < w.heap.size := by
      rcases Nat.lt_or_ge g w.heap.size with q | q
      · exact q
      · rw [Array.getElem?_eq_none q] at hg; simp at hg
    subst hv
    exact ⟨h1, .inr ⟨g, cap, cur, rfl, hB, by rw [hk.block g hlt (hF g rfl)]; exact hg, hr⟩⟩
/-- What turns only blocks of another type leaves the row. -/
theorem OwnR.kept_ty {B : Nat} {F : Nat → Prop} {w w' : World} {v : Value} {l : List α} (H : OwnR K B w v l) (hk : Kept F w w') (hF : ∀ k cs m, F k → w.heap[k]? ≠ some (.cells cs K.t m)) : OwnR K B w' v l :=
  H.kept hk fun k e hf => by obtain ⟨cs, m, h⟩ := H.ty k e; exact hF k cs m hf h
theorem OwnR.apart {β : Type} {K' : Kd β} {B B' : Nat} {w : World} {v v' : Value} {l : List α} {l' : List β} (H : OwnR K B w v l) (H' : OwnR K' B' w v' l') (hne : K.t ≠ K'.t) : ∀ k, v.ownBlock = some k → ¬ some k = v'.ownBlock := by
  intro k hk e
  obtain ⟨cs, m, h⟩ := H.ty k hk
  obtain ⟨cs', m', h'⟩ := H'.ty k e.symm
  rw [h] at h'
  simp only [Option.some.injEq, Obj.cells.injEq] at h'
  exact hne h'.2.1
theorem app_rowB (ok : K.Ok) {ops : Array Oper} {rest : List Oper} {o : Oper} {a : Act} {Q : Exit → Act → World → Prop} (hgd : o.guard = none) (s y : Operand)
    (ho : o.op = .call { callee := .builtin .append, args := #[s, y], argTypes := #[K.s, K.s] })
    {B : Nat} {w0 : World} {v : Value} {xs : List α} (hs : a.eval s = v) (hown : OwnR K B w0 v xs) (hB : B ≤ w0.heap.size) (x : α) {gg : Nat} (hgg : gg = w0.heap.size) {cs : Array Value} (hcs : cs = (K.c x).toArray)
    (hy : a.eval y = .slice (some ⟨gg, 0, none⟩) 1 1) (hl : (xs.length + 1) * K.b ≤ 140737488355328)
    (h : ∀ v' w', OwnR K B w' v' (xs ++ [x]) → w0.grownBy w' v.ownBlock → wpList Tryz.prog ops Q rest (a.put o.dst v') w') :
    wpList Tryz.prog ops Q (o :: rest) a (w0.alloc (.cells cs K.t)) := by
  subst hgg hcs
  obtain ⟨zv, hinf, hzc⟩ := ok.inf
  obtain ⟨i0, hi, hz0, hz1, hz2⟩ := info_parts hinf
  have hb := ok.by0
  refine wpList_append_own_at _ hgd s y K.s ho B K.t i0 _ K.k K.b ok.und hi hz0 hz1 hz2 hzc ok.pos v xs.length (cellsR K xs) hs (World.ownsRow.alloc hown _) ⟨w0.heap.size, 0, none⟩ 1 1 (K.c x) hy (by rw [ok.len, Nat.one_mul]) ?_ (ok.one x) (by have := Nat.le_mul_of_pos_right (xs.length + 1) hb.1; unfold maxLen; omega) ?_ (by simp; omega) ?_
  · intro j u hj
    rw [add_plain, Nat.zero_add, World.cell?_alloc_new, ← Array.getElem?_toList]; exact hj
  · exact hl
  · intro v' w' h1 h2 _ _
    refine h v' w' ?_ (grown_alloc h2)
    show w'.ownsRow _ _ _ _ _ _
    rw [cellsR_app, List.length_append, cellsR_single]
    exact h1
theorem app_row (ok : K.Ok) {ops : Array Oper} {rest : List Oper} {o : Oper} {a : Act} {Q : Exit → Act → World → Prop} (hgd : o.guard = none) (s y : Operand)
    (ho : o.op = .call { callee := .builtin .append, args := #[s, y], argTypes := #[K.s, K.s] })
    {B : Nat} {w0 : World} {v : Value} {xs : List α} (hs : a.eval s = v) (hown : OwnR K B w0 v xs) (hB : B ≤ w0.heap.size) (x : α) {gg : Nat} (hgg : gg = w0.heap.size) {cs : Array Value} (hcs : cs = (K.c x).toArray)
    (hy : a.eval y = .slice (some ⟨gg, 0, none⟩) 1 1) (hl : xs.length < 100000000)
    (h : ∀ v' w', OwnR K B w' v' (xs ++ [x]) → w0.grownBy w' v.ownBlock → wpList Tryz.prog ops Q rest (a.put o.dst v') w') :
    wpList Tryz.prog ops Q (o :: rest) a (w0.alloc (.cells cs K.t)) :=
  app_rowB ok hgd s y ho hs hown hB x hgg hcs hy (Nat.le_trans (Nat.mul_le_mul (show xs.length + 1 ≤ 100000000 by omega) ok.by0.2) (by decide)) h
/-- A literal row. -/
theorem row_built (w : World) (xs : List α) (ok : K.Ok) {cs : Array Value} {n : Nat} (hc : cs = (cellsR K xs).toArray) (hn : n = xs.length) (hl : xs.length ≤ maxLen) : OwnR K w.heap.size (w.alloc (.cells cs K.t)) (.slice (some ⟨w.heap.size, 0, none⟩) n n) xs := by
  subst hc hn
  refine ⟨?_, .inr ⟨w.heap.size, xs.length, (cellsR K xs).toArray, rfl, Nat.le_refl _, ?_, Nat.le_refl _, hl, ?_, ?_⟩⟩
  · exact cellsR_length ok xs
  · rw [heap_alloc_new]
  · exact cellsR_length ok xs
  · rw [List.take_of_length_le (by rw [cellsR_length ok]; exact Nat.le_refl _)]
end Go.Proofs.YtodfmnbfbndkhaaGreatDoor
