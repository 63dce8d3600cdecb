/-
  Lists of changes: in memory, appended to, copied, compared.
-/
import Derived.Test.YtmdjicakjljmlaaRd
import Derived.Lib.Hide
import Derived.Maps.OwnSet
import Derived.Maps.OwnOps
import Derived.Maps.Own
import Derived.Maps.Views
namespace Go.Proofs.Ytmdjicakjljmlaa
open Go.RowKit
/-- A change. -/
structure Ch where
  k : ByteArray
  v : ByteArray
  g : Bool
def Ch.z : Ch := ⟨⟨#[]⟩, ⟨#[]⟩, false⟩
def Ch.cells (x : Ch) : List Value := [.string x.k, .string x.v, .bool x.g]
theorem Ch.cells_one (x : Ch) : ∀ u ∈ x.cells, u.oneCell' = true := by
  intro u hu; simp only [Ch.cells, List.mem_cons, List.not_mem_nil, or_false] at hu; rcases hu with rfl | rfl | rfl <;> rfl
/-- The slice v holds the changes xs. -/
def Chs (w : World) (v : Value) (xs : List Ch) : Prop :=
  ∃ a cap, v = .slice a xs.length cap ∧ xs.length ≤ cap ∧ cap ≤ maxLen ∧ (a = none → cap = 0) ∧ (∀ k, k < xs.length → ∃ b off, a = some ⟨b, off, none⟩ ∧ ∀ j y, (xs.getD k Ch.z).cells[j]? = some y → w.cell? ⟨b, off + k * 3 + j, none⟩ = some y)
theorem Chs.below {w w' : World} {v : Value} {xs : List Ch} (H : Chs w v xs) (hb : Below w.heap.size w w') : Chs w' v xs := by
  obtain ⟨a, cap, e, h1, h2, h0, h3⟩ := H
  refine ⟨a, cap, e, h1, h2, h0, fun k hk => ?_⟩
  obtain ⟨b, off, ea, hc⟩ := h3 k hk
  refine ⟨b, off, ea, fun j y hy => ?_⟩
  have h := hc j y hy
  rw [hb.cell (block_lt_of_cell h)]; exact h
theorem Chs.len {w : World} {v : Value} {xs : List Ch} (H : Chs w v xs) : ∃ a cap, v = .slice a xs.length cap ∧ xs.length ≤ cap ∧ cap ≤ maxLen := by
  obtain ⟨a, cap, h, h1, h2, _⟩ := H; exact ⟨a, cap, h, h1, h2⟩
theorem Chs.at {w : World} {a : Option Addr} {n cap : Nat} {xs : List Ch} (H : Chs w (.slice a n cap) xs) (k : Nat) (hk : k < xs.length) :
    ∃ b off, a = some ⟨b, off, none⟩ ∧ w.cell? ⟨b, off + k * 3, none⟩ = some (.string (xs.getD k Ch.z).k) ∧ w.cell? ⟨b, off + k * 3 + 1, none⟩ = some (.string (xs.getD k Ch.z).v) ∧ w.cell? ⟨b, off + k * 3 + 2, none⟩ = some (.bool (xs.getD k Ch.z).g) := by
  obtain ⟨a', cap', e', _, _, _, hc⟩ := H
  simp only [Value.slice.injEq] at e'
  obtain ⟨rfl, rfl, rfl⟩ := e'
  obtain ⟨b, off, ea, h⟩ := hc k hk
  exact ⟨b, off, ea, h 0 _ rfl, h 1 _ rfl, h 2 _ rfl⟩
theorem Chs.nil (w : World) : Chs w (.slice none 0 0) [] := ⟨none, 0, rfl, by simp, by decide, fun _ => rfl, fun k hk => by simp at hk⟩
def cellsC (xs : List Ch) : List Value := xs.flatMap Ch.cells
theorem cellsC_length (xs : List Ch) : (cellsC xs).length = xs.length * 3 := by
  induction xs with
  | nil => rfl
  | cons x r ih => rw [cellsC, List.flatMap_cons, ← cellsC, List.length_append, ih, List.length_cons]; simp [Ch.cells]; omega
theorem cellsC_at (xs : List Ch) (k : Nat) (h : k < xs.length) (j : Nat) (hj : j < 3) : (cellsC xs)[k * 3 + j]? = (xs.getD k Ch.z).cells[j]? := by
  induction xs generalizing k with
  | nil => simp at h
  | cons x r ih =>
    rw [cellsC, List.flatMap_cons, ← cellsC]
    cases k with
    | zero => rw [Nat.zero_mul, Nat.zero_add, List.getElem?_append_left (by simpa [Ch.cells] using hj)]; rfl
    | succ k =>
      have := ih k (by simp at h; omega)
      rw [show (k + 1) * 3 + j = 3 + (k * 3 + j) by omega, List.getElem?_append_right (by simp [Ch.cells])]
      simpa [Ch.cells] using this
theorem cellsC_one (xs : List Ch) : ∀ u ∈ cellsC xs, u.oneCell' = true := by
  intro u hu
  obtain ⟨x, _, hx⟩ := List.mem_flatMap.1 hu
  exact x.cells_one u hx
theorem cellsC_app (xs ys : List Ch) : cellsC (xs ++ ys) = cellsC xs ++ cellsC ys := by simp [cellsC]
def OwnC (B : Nat) (w : World) (v : Value) (xs : List Ch) : Prop := w.ownsRow B 27 3 v xs.length (cellsC xs)
theorem OwnC.chs {B : Nat} {w : World} {v : Value} {xs : List Ch} (H : OwnC B w v xs) : Chs w v xs := by
  obtain ⟨_, ⟨hv, hn⟩ | ⟨g, cap, cur, hv, hb, hg, hn, hm, hs, ht⟩⟩ := H
  · exact ⟨none, 0, by rw [hv, hn], by omega, by decide, fun _ => rfl, fun k hk => by omega⟩
  · have hcell : ∀ j u, (cellsC xs)[j]? = some u → w.cell? ⟨g, 0 + j, none⟩ = some u := by
      intro j u hj
      rw [← ht, List.getElem?_take] at hj
      split at hj
      · simp [World.cell?, hg]
        simpa using hj
      · cases hj
    refine ⟨_, cap, hv, hn, hm, (fun h => by cases h), fun k hk => ⟨g, 0, rfl, fun j y hy => ?_⟩⟩
    have hj : j < 3 := by
      rcases Nat.lt_or_ge j 3 with q | q
      · exact q
      · rw [List.getElem?_eq_none (by simpa [Ch.cells] using q)] at hy; simp at hy
    rw [Nat.add_assoc]
    exact hcell _ _ ((cellsC_at xs k hk j hj).trans hy)
theorem OwnC.below {B : Nat} {w w' : World} {v : Value} {l : List Ch} (H : OwnC B w v l) (hb : Below w.heap.size w w') : OwnC B w' v l := owns_below H hb
theorem OwnC.lt {B : Nat} {w : World} {v : Value} {l : List Ch} (h : OwnC B w v l) : ∀ k, v.ownBlock = some k → B ≤ k ∧ k < w.heap.size := World.ownsRow.lt h
theorem grown_belowC {B : Nat} {w w' : World} {v : Value} {l : List Ch} (h : w.grownBy w' v.ownBlock) (ho : OwnC B w v l) (hB : B ≤ w.heap.size) : Below B w w' :=
  (Below.refl B w).grown h hB (fun k hk => (ho.lt k hk).1)
theorem info_ch : (Try.prog.info? 27).map (fun i => (i.zero, i.size, i.bytes)) = some (some (.agg #[.string ⟨#[]⟩, .string ⟨#[]⟩, .bool false]), 3, 40) := by kernel_rfl
theorem app_ch {ops : Array Oper} {rest : List Oper} {o : Oper} {a : Act} {Q : Exit → Act → World → Prop} (hgd : o.guard = none) (s y : Operand)
    (ho : o.op = .call { callee := .builtin .append, args := #[s, y], argTypes := #[22, 22] })
    {B : Nat} {w0 : World} {v : Value} {xs : List Ch} (hs : a.eval s = v) (hown : OwnC B w0 v xs) (hB : B ≤ w0.heap.size) (x : Ch) {gg : Nat} (hgg : gg = w0.heap.size)
    (hy : a.eval y = .slice (some ⟨gg, 0, none⟩) 1 1) (hl : xs.length < 1000000000)
    (h : ∀ v' w', OwnC B w' v' (xs ++ [x]) → w0.grownBy w' v.ownBlock → wpList Try.prog ops Q rest (a.put o.dst v') w') :
    wpList Try.prog ops Q (o :: rest) a (w0.alloc (.cells #[.string x.k, .string x.v, .bool x.g] 27)) := by
  subst hgg
  obtain ⟨i0, hi, hz0, hz1, hz2⟩ := info_parts info_ch
  have e : w0.alloc (.cells #[.string x.k, .string x.v, .bool x.g] 27) = w0.alloc (.cells x.cells.toArray 27) := rfl
  rw [e]
  refine wpList_append_own_at _ hgd s y 22 ho B 27 i0 _ 3 40 Try.underlying22 hi hz0 hz1 hz2 rfl (by decide) v xs.length (cellsC xs) hs (World.ownsRow.alloc hown _) ⟨w0.heap.size, 0, none⟩ 1 1 x.cells hy rfl ?_ x.cells_one (by unfold maxLen; omega) (by omega) (by simp; omega) ?_
  · intro j u hj
    rw [add_plain, Nat.zero_add, World.cell?_alloc_new, ← Array.getElem?_toList]; exact hj
  · intro v' w' h1 h2 _ _
    refine h v' w' ?_ (grown_alloc h2)
    show w'.ownsRow _ _ _ _ _ _
    rw [cellsC_app, List.length_append]
    have e2 : cellsC [x] = x.cells := by simp [cellsC]
    rw [e2]; exact h1
theorem newsC {w : World} {a : Addr} {l : List Ch} (h : ∀ k, k < l.length → ∃ b off, some a = some (⟨b, off, none⟩ : Addr) ∧ ∀ j y, (l.getD k Ch.z).cells[j]? = some y → w.cell? ⟨b, off + k * 3 + j, none⟩ = some y) :
    ∀ j v, (cellsC l)[j]? = some v → w.cell? (a.add j) = some v := by
  intro j v hv
  have hj : j < l.length * 3 := by
    rcases Nat.lt_or_ge j (l.length * 3) with q | q
    · exact q
    · rw [List.getElem?_eq_none (by rw [cellsC_length]; exact q)] at hv; simp at hv
  obtain ⟨b, off, ha, hc⟩ := h (j / 3) (by omega)
  obtain rfl : a = ⟨b, off, none⟩ := by simpa using ha
  have e : j = j / 3 * 3 + j % 3 := by omega
  rw [e, cellsC_at l (j / 3) (by omega) (j % 3) (by omega)] at hv
  rw [add_plain, show off + j = off + j / 3 * 3 + j % 3 by omega]
  exact hc _ _ hv
theorem app_chs {ops : Array Oper} {rest : List Oper} {o : Oper} {a : Act} {Q : Exit → Act → World → Prop} (hgd : o.guard = none) (s x : Operand)
    (ho : o.op = .call { callee := .builtin .append, args := #[s, x], argTypes := #[22, 22] })
    {B : Nat} {w : World} {v u : Value} {l m : List Ch} (hs : a.eval s = v) (hown : OwnC B w v l) (hB : B ≤ w.heap.size) (hx : a.eval x = u) (hu : Chs w u m) (hl : (l.length + m.length) * 40 ≤ 140737488355328)
    (h : ∀ v' w', OwnC B w' v' (l ++ m) → w.grownBy w' v.ownBlock → wpList Try.prog ops Q rest (a.put o.dst v') w') :
    wpList Try.prog ops Q (o :: rest) a w := by
  obtain ⟨i0, hi, hz0, hz1, hz2⟩ := info_parts info_ch
  obtain ⟨ad, cap, rfl, hlc, hcm, hn, hc⟩ := hu
  cases ad with
  | none =>
    obtain rfl := hn rfl
    obtain rfl : m = [] := by simpa using hlc
    refine wpList_append_own_none hgd s x 22 ho B 27 i0 3 Try.underlying22 hi v l.length (cellsC l) hs hown hx ?_
    exact h v w (by simpa using hown) ⟨rfl, rfl, rfl, Nat.le_refl _, fun _ _ _ => rfl⟩
  | some ad =>
    refine wpList_append_own_at w hgd s x 22 ho B 27 i0 _ 3 40 Try.underlying22 hi hz0 hz1 hz2 rfl (by decide) v l.length (cellsC l) hs hown ad m.length cap (cellsC m) hx (by rw [cellsC_length]) (newsC hc) (cellsC_one m) (by unfold maxLen; omega) (by omega) hB ?_
    intro v' w' h1 h2 _ _
    refine h v' w' ?_ h2
    show w'.ownsRow _ _ _ _ _ _
    rw [cellsC_app, List.length_append]; exact h1
set_option maxHeartbeats 1000000 in
theorem owns_any (v : Value) (l : List Ch) (w : World) (hv : Chs w v l) (hl : l.length * 40 ≤ 140737488355328) :
    Calls Try.prog 6 #[v] w fun e w' => ∃ v', e = .returned v' ∧ OwnC w.heap.size w' v' l ∧ Below w.heap.size w w' := by
  have V : Hid (Chs w v l) := Lib.hid hv
  have O : Hid (OwnC w.heap.size w (.slice none 0 0) []) := Lib.hid (World.ownsRow_nil _ _ _ _)
  have S : Hid (w.heap.size ≤ w.heap.size) := Lib.hid (Nat.le_refl _)
  obtain ⟨a, cap, rfl, _, _⟩ := hv.len
  clear hv
  go_enter Try.func6, Try.ntmps6
  go_wp2_with (at_builtin; refine app_chs (v := .slice none 0 0) (u := .slice a l.length cap) rfl _ _ rfl rfl O.out S.out rfl V.out ?hl1 ?_)
  case hl1 => simpa using hl
  intro v' w' h1 h2
  have A : Aside (OwnC w.heap.size w' v' l ∧ Below w.heap.size w w') := ⟨by simpa using h1, grown_belowC h2 O.out S.out⟩
  clear h1 h2 O S V
  go_wp2_with fail
  go_ret
  exact ⟨_, rfl, A.out.1, A.out.2⟩
def sameC (x y : Ch) : Bool := (x.k.toList == y.k.toList) && (x.v.toList == y.v.toList) && (x.g == y.g)
end Go.Proofs.Ytmdjicakjljmlaa
