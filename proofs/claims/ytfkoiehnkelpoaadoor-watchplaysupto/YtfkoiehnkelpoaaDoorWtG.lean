/-
  Rows: grown, appended to, cut, cleared.
-/
import Derived.Test.YtfkoiehnkelpoaaDoorScG
import Derived.Laws.AppendOwnNone
import Derived.ArgAppend
import Derived.Laws.IdiomCopy
namespace Go.Proofs.YtfkoiehnkelpoaaDoor
open Go.RowKit
theorem grown_set (w : World) (b i : Nat) (v : Value) : w.grownBy (w.setCell ⟨b, i, none⟩ v) (some b) := by
  refine ⟨rfl, rfl, rfl, by simp [World.setCell], fun k _ hne => ?_⟩
  exact Below.heap_setCell _ _ _ _ (by intro e; exact hne (congrArg some e))
variable {α : Type} {K : Kd α}
theorem OwnR.grownO {B : Nat} {w w' : World} {v : Value} {l : List α} {r : Option Nat} (H : OwnR K B w v l) (hg : w.grownBy w' r) (hne : ∀ k, v.ownBlock = some k → some k ≠ r) : OwnR K B w' v l := by
  obtain ⟨h1, h | ⟨g, cap, cur, hv, hB, hg', hr⟩⟩ := H
  · exact ⟨h1, .inl h⟩
  · have hlt : g < w.heap.size := by
      rcases Nat.lt_or_ge g w.heap.size with q | q
      · exact q
      · rw [Array.getElem?_eq_none q] at hg'; simp at hg'
    subst hv
    exact ⟨h1, .inr ⟨g, cap, cur, rfl, hB, by rw [hg.block g hlt (hne g rfl)]; exact hg', hr⟩⟩
theorem app_rows (ok : K.Ok) {ops : Array Oper} {rest : List Oper} {o : Oper} {a : Act} {Q : Exit → Act → World → Prop} (hgd : o.guard = none) (s x : Operand)
    (ho : o.op = .call { callee := .builtin .append, args := #[s, x], argTypes := #[K.s, K.s] })
    {B : Nat} {w : World} {v u : Value} {l m : List α} (hs : a.eval s = v) (hown : OwnR K B w v l) (hB : B ≤ w.heap.size) (hx : a.eval x = u) (hu : Row K w u m) (hl : (l.length + m.length) * K.b ≤ 140737488355328)
    (h : ∀ v' w', OwnR K B w' v' (l ++ m) → w.grownBy w' v.ownBlock → wpList Tryd.prog ops Q rest (a.put o.dst v') w') :
    wpList Tryd.prog ops Q (o :: rest) a w := by
  obtain ⟨zv, hinf, hzc⟩ := ok.inf
  obtain ⟨i0, hi, hz0, hz1, hz2⟩ := info_parts hinf
  have hb := ok.by0
  obtain ⟨ad, cap, rfl, hlc, hcm, hn, hc⟩ := hu
  cases ad with
  | none =>
    obtain rfl := hn rfl
    obtain rfl : m = [] := by simpa using hlc
    refine wpList_append_own_none hgd s x K.s ho B K.t i0 K.k ok.und hi v l.length (cellsR K l) hs hown hx ?_
    exact h v w (by simpa using hown) ⟨rfl, rfl, rfl, Nat.le_refl _, fun _ _ _ => rfl⟩
  | some ad =>
    refine wpList_append_own_at w hgd s x K.s ho B K.t i0 _ K.k K.b ok.und hi hz0 hz1 hz2 hzc ok.pos v l.length (cellsR K l) hs hown ad m.length cap (cellsR K m) hx (by rw [cellsR_length ok]) ?_ (cellsR_one ok m) (by have := Nat.le_mul_of_pos_right (l.length + m.length) hb.1; unfold maxLen; omega) hl hB ?_
    · intro j y hj
      have hjl : j < m.length * K.k := by
        rcases Nat.lt_or_ge j (m.length * K.k) with q | q
        · exact q
        · rw [List.getElem?_eq_none (by rw [cellsR_length ok]; exact q)] at hj; simp at hj
      have hkp := ok.pos
      have hq : j / K.k < m.length := Nat.div_lt_of_lt_mul (by rw [Nat.mul_comm]; exact hjl)
      have hr : j % K.k < K.k := Nat.mod_lt _ hkp
      have e : j = j / K.k * K.k + j % K.k := by rw [Nat.mul_comm]; exact (Nat.div_add_mod j K.k).symm
      obtain ⟨b, off, ea, hcc⟩ := hc (j / K.k) hq
      simp only [Option.some.injEq] at ea
      subst ea
      rw [add_plain]
      rw [e, cellsR_at ok m _ hq _ hr] at hj
      have := hcc _ _ hj
      rw [e, ← Nat.add_assoc]
      exact this
    · intro v' w' h1 h2 _ _
      refine h v' w' ?_ h2
      show w'.ownsRow _ _ _ _ _ _
      rw [cellsR_app, List.length_append]; exact h1
theorem frozen_row {w : World} {g : Nat} {cs : Array Value} {t : TypeId} (h : w.heap[g]? = some (.cells cs t (0, 0))) (j : Nat) : w.frozen? ⟨g, j, none⟩ = false := by
  unfold World.frozen?; rw [h]; simp
theorem frozen_grown {w w' : World} {r : Option Nat} {a : Addr} (hg : w.grownBy w' r) (h : w.frozen? a = false) (hlt : a.block < w.heap.size) (hne : some a.block ≠ r) : w'.frozen? a = false := by
  unfold World.frozen? at *; rw [hg.block _ hlt hne]; exact h
theorem grown_row (w : World) (g : Nat) (cs : Array Value) : w.grownBy (w.setRow g cs) (some g) := ⟨rfl, rfl, rfl, by simp [World.setRow], fun k _ hn => setRow_other w g k cs (fun e => hn (by rw [e]))⟩
theorem set_size (w : World) (p : Addr) (v : Value) : (w.setCell p v).heap.size = w.heap.size := by simp [World.setCell]
theorem OwnR.far {α : Type} {K : Kd α} {B g : Nat} {w w' : World} {v : Value} {l : List α} (h : OwnR K B w v l) (hg : w.grownBy w' (some g)) (hB : g < B) : OwnR K B w' v l :=
  h.grownO hg (fun j e t => by have := (h.lt j e).1; injection t with t; omega)
theorem OwnR.parts {B : Nat} {w : World} {g n cap : Nat} {xs : List α} (H : OwnR K B w (.slice (some ⟨g, 0, none⟩) n cap) xs) : ∃ cur : Array Value, n = xs.length ∧ B ≤ g ∧ w.heap[g]? = some (.cells cur K.t (0, 0)) ∧ n ≤ cap ∧ cap ≤ maxLen ∧ cur.size = cap * K.k ∧ cur.toList.take (n * K.k) = cellsR K xs := by
  obtain ⟨hl, ⟨hv, hn⟩ | ⟨g', cap', cur, hv, hb, hg, hn, hm, hs, ht⟩⟩ := H
  · simp at hv
  · simp only [Value.slice.injEq, Option.some.injEq, Addr.mk.injEq, and_true] at hv
    obtain ⟨rfl, rfl, rfl⟩ := hv
    exact ⟨cur, rfl, hb, hg, hn, hm, hs, ht⟩
theorem OwnR.ofParts (ok : K.Ok) {B : Nat} {w : World} {g cap : Nat} {xs : List α} {cur : Array Value} (hb : B ≤ g) (hg : w.heap[g]? = some (.cells cur K.t (0, 0))) (hn : xs.length ≤ cap) (hm : cap ≤ maxLen) (hs : cur.size = cap * K.k) (ht : cur.toList.take (xs.length * K.k) = cellsR K xs) : OwnR K B w (.slice (some ⟨g, 0, none⟩) xs.length cap) xs :=
  ⟨cellsR_length ok xs, .inr ⟨g, cap, cur, rfl, hb, hg, hn, hm, hs, ht⟩⟩
theorem getD_in {α : Type} {l : List α} {k : Nat} {d : α} (h : k < l.length) : l.getD k d ∈ l := by
  rw [List.getD_eq_getElem?_getD, List.getElem?_eq_getElem h]
  exact List.getElem_mem h
theorem take_onez {α : Type} (l : List α) (k : Nat) (d : α) (h : k < l.length) : l.take (k + 1) = l.take k ++ [l.getD k d] := by
  rw [List.take_add_one, List.getD_eq_getElem?_getD, List.getElem?_eq_getElem h]; rfl
theorem lt_of_some {w : World} {b : Nat} {o : Obj} (h : w.heap[b]? = some o) : b < w.heap.size := by
  rcases Nat.lt_or_ge b w.heap.size with q | q
  · exact q
  · rw [Array.getElem?_eq_none q] at h; simp at h
theorem cellA {W : World} {a : Addr} {v : Value} (h : W.cell? a = some v) (o : Obj) : (W.alloc o).cell? a = some v := (((Below.refl _ W).alloc (Nat.le_refl _) o).cell (block_lt_of_cell h)).trans h
theorem bal {B : Nat} {w W : World} (h : Below B w W) (hB : B ≤ w.heap.size) (o : Obj) : Below B w (W.alloc o) := h.alloc (Nat.le_trans hB h.size) o
theorem below_alR (w : World) : Hid (∀ q, Below w.heap.size w (w.alloc q)) := Lib.hid fun q => (Below.refl _ w).alloc (Nat.le_refl _) q
/-- An append of one element, where the row then lies. -/
theorem app_rowA (ok : K.Ok) {ops : Array Oper} {rest : List Oper} {o : Oper} {a : Act} {Q : Exit → Act → World → Prop} (hgd : o.guard = none) (s y : Operand)
    (ho : o.op = .call { callee := .builtin .append, args := #[s, y], argTypes := #[K.s, K.s] })
    {B : Nat} {w0 : World} {v : Value} {xs : List α} (hs : a.eval s = v) (hown : OwnR K B w0 v xs) (hB : B ≤ w0.heap.size) (x : α) {gg : Nat} (hgg : gg = w0.heap.size) {cs : Array Value} (hcs : cs = (K.c x).toArray)
    (hy : a.eval y = .slice (some ⟨gg, 0, none⟩) 1 1) (hl : (xs.length + 1) * K.b ≤ 140737488355328)
    (h : ∀ v' w', OwnR K B w' v' (xs ++ [x]) → w0.grownBy w' v.ownBlock → At v v' w0 → wpList Tryd.prog ops Q rest (a.put o.dst v') w') :
    wpList Tryd.prog ops Q (o :: rest) a (w0.alloc (.cells cs K.t)) := by
  subst hgg hcs
  obtain ⟨zv, hinf, hzc⟩ := ok.inf
  obtain ⟨i0, hi, hz0, hz1, hz2⟩ := info_parts hinf
  have hb := ok.by0
  refine wpList_append_own_at _ hgd s y K.s ho B K.t i0 _ K.k K.b ok.und hi hz0 hz1 hz2 hzc ok.pos v xs.length (cellsR K xs) hs (World.ownsRow.alloc hown _) ⟨w0.heap.size, 0, none⟩ 1 1 (K.c x) hy (by rw [ok.len, Nat.one_mul]) ?_ (ok.one x) (by have := Nat.le_mul_of_pos_right (xs.length + 1) hb.1; unfold maxLen; omega) ?_ (by simp; omega) ?_
  · intro j u hj
    rw [add_plain, Nat.zero_add, World.cell?_alloc_new, ← Array.getElem?_toList]; exact hj
  · exact hl
  · intro v' w' h1 h2 _ h4
    refine h v' w' ?_ (grown_alloc h2) (at_of h4 (by simp))
    show w'.ownsRow _ _ _ _ _ _
    rw [cellsR_app, List.length_append, cellsR_single]
    exact h1
/-- The same with a row. -/
theorem app_rowsA (ok : K.Ok) {ops : Array Oper} {rest : List Oper} {o : Oper} {a : Act} {Q : Exit → Act → World → Prop} (hgd : o.guard = none) (s x : Operand)
    (ho : o.op = .call { callee := .builtin .append, args := #[s, x], argTypes := #[K.s, K.s] })
    {B : Nat} {w : World} {v u : Value} {l m : List α} (hs : a.eval s = v) (hown : OwnR K B w v l) (hB : B ≤ w.heap.size) (hx : a.eval x = u) (hu : Row K w u m) (hl : (l.length + m.length) * K.b ≤ 140737488355328)
    (h : ∀ v' w', OwnR K B w' v' (l ++ m) → w.grownBy w' v.ownBlock → At v v' w → wpList Tryd.prog ops Q rest (a.put o.dst v') w') :
    wpList Tryd.prog ops Q (o :: rest) a w := by
  obtain ⟨zv, hinf, hzc⟩ := ok.inf
  obtain ⟨i0, hi, hz0, hz1, hz2⟩ := info_parts hinf
  have hb := ok.by0
  obtain ⟨ad, cap, rfl, hlc, hcm, hn, hc⟩ := hu
  cases ad with
  | none =>
    obtain rfl := hn rfl
    obtain rfl : m = [] := by simpa using hlc
    refine wpList_append_own_none hgd s x K.s ho B K.t i0 K.k ok.und hi v l.length (cellsR K l) hs hown hx ?_
    exact h v w (by simpa using hown) ⟨rfl, rfl, rfl, Nat.le_refl _, fun _ _ _ => rfl⟩ (At.refl _ _)
  | some ad =>
    refine wpList_append_own_at w hgd s x K.s ho B K.t i0 _ K.k K.b ok.und hi hz0 hz1 hz2 hzc ok.pos v l.length (cellsR K l) hs hown ad m.length cap (cellsR K m) hx (by rw [cellsR_length ok]) ?_ (cellsR_one ok m) (by have := Nat.le_mul_of_pos_right (l.length + m.length) hb.1; unfold maxLen; omega) hl hB ?_
    · intro j y hj
      have hjl : j < m.length * K.k := by
        rcases Nat.lt_or_ge j (m.length * K.k) with q | q
        · exact q
        · rw [List.getElem?_eq_none (by rw [cellsR_length ok]; exact q)] at hj; simp at hj
      have hkp := ok.pos
      have hq : j / K.k < m.length := Nat.div_lt_of_lt_mul (by rw [Nat.mul_comm]; exact hjl)
      have hr : j % K.k < K.k := Nat.mod_lt _ hkp
      have e : j = j / K.k * K.k + j % K.k := by rw [Nat.mul_comm]; exact (Nat.div_add_mod j K.k).symm
      obtain ⟨b, off, ea, hcc⟩ := hc (j / K.k) hq
      simp only [Option.some.injEq] at ea
      subst ea
      rw [add_plain]
      rw [e, cellsR_at ok m _ hq _ hr] at hj
      have := hcc _ _ hj
      rw [e, ← Nat.add_assoc]
      exact this
    · intro v' w' h1 h2 _ h4
      refine h v' w' ?_ h2 (at_of h4 (Nat.le_refl _))
      show w'.ownsRow _ _ _ _ _ _
      rw [cellsR_app, List.length_append]; exact h1
/-- A row's beginning. -/
theorem OwnR.take (ok : K.Ok) {B : Nat} {w : World} {a : Option Addr} {n cap : Nat} {xs : List α} (H : OwnR K B w (.slice a n cap) xs) (m : Nat) (hm : m ≤ xs.length) : OwnR K B w (.slice a m cap) (xs.take m) := by
  obtain ⟨h1, ⟨hv, hn⟩ | ⟨g, cap', cur, hv, hb, hg, hn, hmx, hs, ht⟩⟩ := H
  · simp only [Value.slice.injEq] at hv
    obtain ⟨rfl, rfl, rfl⟩ := hv
    have : m = 0 := by omega
    subst this
    exact OwnR.nil _ _ _
  · simp only [Value.slice.injEq] at hv
    obtain ⟨rfl, rfl, rfl⟩ := hv
    have e : (xs.take m).length = m := by rw [List.length_take]; omega
    have := OwnR.ofParts ok (xs := xs.take m) hb hg (by omega) hmx hs (by
      rw [e]
      have h2 : cellsR K (xs.take m) = (cellsR K xs).take (m * K.k) := by
        have h3 : cellsR K xs = cellsR K (xs.take m) ++ cellsR K (xs.drop m) := by rw [← cellsR_app, List.take_append_drop]
        have h4 : m * K.k = (cellsR K (xs.take m)).length := by rw [cellsR_length ok, e]
        rw [h3, h4, List.take_left]
      rw [h2, ← ht, List.take_take, Nat.min_eq_left (Nat.mul_le_mul_right _ hm)])
    rw [e] at this
    exact this
/-- A row's end. -/
theorem Row.drop {w : World} {a : Option Addr} {n cap : Nat} {xs : List α} (H : Row K w (.slice a n cap) xs) (m : Nat) (hm : m ≤ xs.length) (hc : m < cap) : ∃ a', a' = a.map (fun x => x.add (m * K.k)) ∧ Row K w (.slice a' (n - m) (cap - m)) (xs.drop m) := by
  obtain ⟨a0, cap0, e, h1, h2, h0, h3⟩ := H
  simp only [Value.slice.injEq] at e
  obtain ⟨rfl, rfl, rfl⟩ := e
  refine ⟨_, rfl, a.map (fun x => x.add (m * K.k)), cap - m, by rw [List.length_drop], by rw [List.length_drop]; omega, by omega, fun h => ?_, fun k hk => ?_⟩
  · cases a with
    | none => have := h0 rfl; omega
    | some x => simp at h
  · rw [List.length_drop] at hk
    obtain ⟨b, off, rfl, hcell⟩ := h3 (m + k) (by omega)
    refine ⟨b, off + m * K.k, by rw [Option.map_some, add_plain], fun j y hy => ?_⟩
    have e2 : (xs.drop m).getD k K.z = xs.getD (m + k) K.z := by rw [List.getD_eq_getElem?_getD, List.getD_eq_getElem?_getD, List.getElem?_drop]
    rw [e2] at hy
    have := hcell j y hy
    rw [show off + m * K.k + k * K.k + j = off + (m + k) * K.k + j by rw [Nat.add_mul]; omega]
    exact this
theorem Row.none_of {w : World} {a : Option Addr} {n cap : Nat} (xs : List α) (hn : n = 0) (hx : xs.length = 0) (hc : cap ≤ maxLen) (h0 : a = none → cap = 0) : Row K w (.slice a n cap) xs := by
  subst hn
  exact ⟨a, cap, by rw [hx], by omega, hc, h0, fun k hk => by omega⟩
end Go.Proofs.YtfkoiehnkelpoaaDoor
