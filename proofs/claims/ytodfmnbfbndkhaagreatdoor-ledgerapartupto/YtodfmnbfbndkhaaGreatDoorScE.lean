/-
  One more behind a row of the call's own: the row itself stays. Elements turned one by one.
-/
import Derived.Test.YtodfmnbfbndkhaaGreatDoorScN
import Derived.ArgAppend
namespace Go.Proofs.YtodfmnbfbndkhaaGreatDoor
open Go.RowKit
variable {α : Type} {K : Kd α}
theorem OwnR.parts {B : Nat} {w : World} {g n cap : Nat} {xs : List α} (H : OwnR K B w (.slice (some ⟨g, 0, none⟩) n cap) xs) : ∃ cur : Array Value, n = xs.length ∧ B ≤ g ∧ w.heap[g]? = some (.cells cur K.t (0, 0)) ∧ n ≤ cap ∧ cap ≤ maxLen ∧ cur.size = cap * K.k ∧ cur.toList.take (n * K.k) = cellsR K xs := by
  obtain ⟨hl, ⟨hv, hn⟩ | ⟨g', cap', cur, hv, hb, hg, hn, hm, hs, ht⟩⟩ := H
  · simp at hv
  · simp only [Value.slice.injEq, Option.some.injEq, Addr.mk.injEq, and_true] at hv
    obtain ⟨rfl, rfl, rfl⟩ := hv
    exact ⟨cur, rfl, hb, hg, hn, hm, hs, ht⟩
theorem OwnR.ofParts (ok : K.Ok) {B : Nat} {w : World} {g cap : Nat} {xs : List α} {cur : Array Value} (hb : B ≤ g) (hg : w.heap[g]? = some (.cells cur K.t (0, 0))) (hn : xs.length ≤ cap) (hm : cap ≤ maxLen) (hs : cur.size = cap * K.k) (ht : cur.toList.take (xs.length * K.k) = cellsR K xs) : OwnR K B w (.slice (some ⟨g, 0, none⟩) xs.length cap) xs :=
  ⟨cellsR_length ok xs, .inr ⟨g, cap, cur, rfl, hb, hg, hn, hm, hs, ht⟩⟩
theorem app_moreK (ok : K.Ok) {ops : Array Oper} {rest : List Oper} {o : Oper} {a : Act} {Q : Exit → Act → World → Prop} (hgd : o.guard = none) (s y : Operand)
    (ho : o.op = .call { callee := .builtin .append, args := #[s, y], argTypes := #[K.s, K.s] })
    {B : Nat} {w0 : World} {g n cap : Nat} {xs : List α} (hs : a.eval s = .slice (some ⟨g, 0, none⟩) n cap) (hown : OwnR K B w0 (.slice (some ⟨g, 0, none⟩) n cap) xs) (hB : B ≤ w0.heap.size) (x : α) {gg : Nat} (hgg : gg = w0.heap.size) {cs : Array Value} (hcs : cs = (K.c x).toArray)
    (hy : a.eval y = .slice (some ⟨gg, 0, none⟩) 1 1) (hl : (xs.length + 1) * K.b ≤ 140737488355328)
    (h : ∀ v' w', OwnR K B w' (.slice (some ⟨g, 0, none⟩) n cap) xs → OwnR K B w' v' (xs ++ [x]) → w0.grownBy w' (some g) → wpList Tryz.prog ops Q rest (a.put o.dst v') w') :
    wpList Tryz.prog ops Q (o :: rest) a (w0.alloc (.cells cs K.t)) := by
  subst hgg hcs
  obtain ⟨zv, hinf, hzc⟩ := ok.inf
  obtain ⟨i0, hi, hz0, hz1, hz2⟩ := info_parts hinf
  have hb0 := ok.by0
  obtain ⟨cur, rfl, hbg, hg, hnc, hcm, hsz, ht⟩ := hown.parts
  have hlt : g < w0.heap.size := (Array.getElem?_eq_some_iff.1 hg).1
  have hg1 : (w0.alloc (.cells (K.c x).toArray K.t)).heap[g]? = some (.cells cur K.t (0, 0)) := by rw [Below.heap_alloc _ _ _ hlt]; exact hg
  have hnews : ∀ j u, (K.c x)[j]? = some u → (w0.alloc (.cells (K.c x).toArray K.t)).cell? ((⟨w0.heap.size, 0, none⟩ : Addr).add j) = some u := fun j u hj => by
    rw [add_plain, Nat.zero_add, World.cell?_alloc_new, ← Array.getElem?_toList]; exact hj
  have hlen1 : (K.c x).length = 1 * i0.size := by rw [ok.len, hz1, Nat.one_mul]
  have hxl : (cellsR K xs).length = xs.length * K.k := cellsR_length ok xs
  refine wpList_plain hgd fun K' hK' => ?_
  by_cases hroom : xs.length + 1 ≤ cap
  · have hfit : xs.length * i0.size + (K.c x).length ≤ cur.size := by
      rw [hz1, ok.len, hsz, ← Nat.succ_mul]; exact Nat.mul_le_mul_right _ hroom
    have hr := run_append_room (P := Tryz.prog) (w := w0.alloc (.cells (K.c x).toArray K.t)) K.s o.type K.t i0 ok.und hi g xs.length cap cur hg1 ⟨w0.heap.size, 0, none⟩ 1 1 (K.c x) hlen1 hnews (ok.one x) hroom hfit
    obtain ⟨row, hrow⟩ : ∃ row, row = (cur.toList.take (xs.length * i0.size) ++ K.c x ++ cur.toList.drop (xs.length * i0.size + (K.c x).length)).toArray := ⟨_, rfl⟩
    rw [← hrow] at hr
    unfold Oper.wp execOp
    simp only [ho, resolve, invoke, builtin, Sem.run_bind, Sem.run_pure, Result.andThen_ok, List.map_toArray, List.map_cons, List.map_nil, hs, hy, hr]
    have hg2 := setRow_heap _ g cur row K.t (0, 0) hg1
    have ht' : cur.toList.take (xs.length * i0.size) = cellsR K xs := by rw [hz1]; exact ht
    have hrl : row.toList = cellsR K xs ++ K.c x ++ cur.toList.drop (xs.length * i0.size + (K.c x).length) := by rw [hrow, ht']
    have hrs : row.size = cap * K.k := by
      have e : row.toList.length = (cellsR K xs).length + (K.c x).length + (cur.toList.length - (xs.length * i0.size + (K.c x).length)) := by rw [hrl, List.length_append, List.length_append, List.length_drop]
      have e1 : row.toList.length = row.size := Array.length_toList
      have e2 : cur.toList.length = cur.size := Array.length_toList
      rw [e1, e2, hxl, ok.len, hz1, hsz] at e
      rw [hz1, ok.len, hsz] at hfit
      omega
    have o1 : OwnR K B ((w0.alloc (.cells (K.c x).toArray K.t)).setRow g row) (.slice (some ⟨g, 0, none⟩) xs.length cap) xs := OwnR.ofParts ok hbg hg2 hnc hcm hrs (by rw [hrl, List.append_assoc, ← hxl, List.take_left])
    have o2 : OwnR K B ((w0.alloc (.cells (K.c x).toArray K.t)).setRow g row) (.slice (some ⟨g, 0, none⟩) (xs ++ [x]).length cap) (xs ++ [x]) := OwnR.ofParts ok hbg hg2 (by simpa using hroom) hcm hrs (by
      rw [hrl, cellsR_app, cellsR_single]
      have e : (xs ++ [x]).length * K.k = (cellsR K xs ++ K.c x).length := by rw [List.length_append, List.length_append, hxl, ok.len, List.length_singleton, Nat.succ_mul]
      rw [e, List.take_left])
    have g1 : w0.grownBy ((w0.alloc (.cells (K.c x).toArray K.t)).setRow g row) (some g) := (World.grownBy_alloc w0 _ (some g)).trans (grown_row _ g row)
    have e3 : (xs ++ [x]).length = xs.length + 1 := by simp
    rw [e3] at o2
    exact hK' _ _ (h _ _ o1 o2 g1)
  · have hcells : ∀ j u, (cellsR K xs)[j]? = some u → (w0.alloc (.cells (K.c x).toArray K.t)).cell? ((⟨g, 0, none⟩ : Addr).add j) = some u := fun j u hj => by
      have hjl : j < xs.length * K.k := by
        rcases Nat.lt_or_ge j (xs.length * K.k) with q | q
        · exact q
        · rw [List.getElem?_eq_none (by rw [hxl]; exact q)] at hj; simp at hj
      rw [add_plain, Nat.zero_add, cell_of_row _ _ _ _ _ _ hg1, ← Array.getElem?_toList, ← List.getElem?_take_of_lt hjl, ht]
      exact hj
    obtain ⟨v', w', hr, h2, h3⟩ := run_append_arg_grows (P := Tryz.prog) (w := w0.alloc (.cells (K.c x).toArray K.t)) K.s o.type K.t i0 zv K.k K.b ok.und hi hz0 hz1 hz2 hzc ok.pos ⟨g, 0, none⟩ xs.length cap (cellsR K xs) hxl hcells ⟨w0.heap.size, 0, none⟩ 1 1 (K.c x) (by rw [ok.len, Nat.one_mul]) hnews (by omega) (by have := Nat.le_mul_of_pos_right (xs.length + 1) hb0.1; unfold maxLen; omega) hl
    unfold Oper.wp execOp
    simp only [ho, resolve, invoke, builtin, Sem.run_bind, Sem.run_pure, Result.andThen_ok, List.map_toArray, List.map_cons, List.map_nil, hs, hy, hr]
    have g1 : w0.grownBy w' none := (World.grownBy_alloc w0 _ none).trans h3
    have o2 : OwnR K (w0.alloc (.cells (K.c x).toArray K.t)).heap.size w' v' (xs ++ [x]) := by
      show w'.ownsRow _ _ _ _ _ _
      rw [cellsR_app, cellsR_single, List.length_append]
      exact h2
    exact hK' _ _ (h _ _ (hown.grownO g1 (fun k _ q => by simp at q)) (o2.mono (by simp; omega)) (World.grownBy.but g1 _))
theorem cellsR_set (ok : K.Ok) (xs : List α) (i j : Nat) (hi : i < xs.length) (hj : j < K.k) (y : α) (v : Value) (hy : K.c y = (K.c (xs.getD i K.z)).set j v) : (cellsR K xs).set (i * K.k + j) v = cellsR K (xs.set i y) := by
  induction xs generalizing i with
  | nil => simp at hi
  | cons x r ih =>
    cases i with
    | zero =>
      rw [List.getD_cons_zero] at hy
      rw [List.set_cons_zero, cellsR, cellsR, List.flatMap_cons, List.flatMap_cons, Nat.zero_mul, Nat.zero_add, List.set_append_left _ _ (by rw [ok.len]; exact hj), hy]
    | succ i =>
      rw [List.getD_cons_succ] at hy
      have := ih i (by simpa using hi) hy
      rw [List.set_cons_succ, cellsR, cellsR, List.flatMap_cons, List.flatMap_cons, List.set_append_right _ _ (by rw [ok.len, Nat.succ_mul]; omega), ok.len, show (i + 1) * K.k + j - K.k = i * K.k + j by rw [Nat.succ_mul]; omega]
      rw [cellsR, cellsR] at this
      rw [this]
/-- One element turned, cell by cell. -/
theorem OwnR.set (ok : K.Ok) {B : Nat} {w : World} {g n cap : Nat} {xs : List α} (H : OwnR K B w (.slice (some ⟨g, 0, none⟩) n cap) xs) (i j : Nat) (hi : i < xs.length) (hj : j < K.k) (y : α) (v : Value) (hy : K.c y = (K.c (xs.getD i K.z)).set j v) : OwnR K B (w.setCell ⟨g, i * K.k + j, none⟩ v) (.slice (some ⟨g, 0, none⟩) n cap) (xs.set i y) := by
  obtain ⟨cur, rfl, hbg, hg, hnc, hcm, hsz, ht⟩ := H.parts
  have hg2 : (w.setCell ⟨g, i * K.k + j, none⟩ v).heap[g]? = some (.cells (cur.setIfInBounds (i * K.k + j) v) K.t (0, 0)) := heap_setCell_same _ _ _ _ _ _ hg
  have e : (xs.set i y).length = xs.length := by simp
  rw [← e]
  refine OwnR.ofParts ok hbg hg2 (by rw [e]; exact hnc) hcm (by simpa using hsz) ?_
  rw [e, Array.toList_setIfInBounds, List.take_set, ht]
  exact cellsR_set ok xs i j hi hj y v hy
end Go.Proofs.YtodfmnbfbndkhaaGreatDoor
