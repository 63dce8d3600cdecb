/-
  A leaf that grows entry by entry: its lists (pure), its block in memory.
-/
import Derived.Test.YtmoghdpjemidgaaPgCp
import Derived.Test.YtmoghdpjemidgaaPgZ
namespace Go.Proofs.Ytmoghdpjemidgaa
open Go.RowKit Go.Maps
namespace Ps
def lastOf : ByteArray → List Ent → ByteArray
  | l, [] => l
  | _, e :: r => lastOf e.1 r
theorem leafG_snoc : ∀ (es : List Ent) (cs : List Int) (l : ByteArray) (x : Ent) (c : Int), cs.length = es.length → leafG l (es ++ [x]) (cs ++ [c]) = (leafG l es cs && (folB (lastOf l es) x.1 && staB x.2 c))
  | [], [], l, x, c, _ => by simp [leafG, lastOf]
  | [], _ :: _, _, _, _, h => by simp at h
  | _ :: _, [], _, _, _, h => by simp at h
  | e :: es, d :: cs, l, x, c, h => by
    have q := leafG_snoc es cs e.1 x c (by simpa using h)
    show (folB l e.1 && staB e.2 d && leafG e.1 (es ++ [x]) (cs ++ [c])) = _
    rw [q]
    show _ = (folB l e.1 && staB e.2 d && leafG e.1 es cs && _)
    simp [Bool.and_assoc, lastOf]
theorem lastOf_snoc : ∀ (es : List Ent) (l : ByteArray) (x : Ent), lastOf l (es ++ [x]) = x.1
  | [], _, _ => rfl
  | e :: es, _, x => lastOf_snoc es e.1 x
/-- A leaf's lists under way: they stand, the last key, the size. -/
structure Gd (last : ByteArray) (es : List Ent) (cs : List Int) (sz : Nat) : Prop where
  g : leafG ⟨#[]⟩ es cs = true
  l : cs.length = es.length
  e : last = lastOf ⟨#[]⟩ es
  s : sz = 8 + ((es.zip cs).map szE).sum
theorem Gd.start : Gd ⟨#[]⟩ [] [] 8 := ⟨rfl, rfl, rfl, rfl⟩
theorem Gd.step {last k v : ByteArray} {es : List Ent} {cs : List Int} {sz : Nat} {c : Int} (h : Gd last es cs sz) (hf : folB last k = true) (hs : staB v c = true) : Gd k (es ++ [(k, v)]) (cs ++ [c]) (sz + szE ((k, v), c)) := by
  refine ⟨?_, by simp [h.l], (lastOf_snoc es ⟨#[]⟩ (k, v)).symm, ?_⟩
  · rw [leafG_snoc es cs _ _ _ h.l, h.g, ← h.e, hf, hs]; rfl
  · rw [List.zip_append h.l.symm, List.map_append, List.sum_append, h.s]
    simp
    omega
/-- The leaf. -/
def lf (es : List Ent) (cs : List Int) : Nd := ⟨1, es, cs, [], [], 0, ⟨#[]⟩⟩
theorem size_no (n : Nd) (hk : n.kind = 1) (h : leafB n ≠ true) : sizeN n = -1 ∧ fitB n = false := by
  have h1 : sizeN n = -1 := by
    unfold sizeN
    rw [if_neg h, if_neg (fun q => by have := ((inn_iff n).1 q).k; omega), if_neg (fun q => by have := ((ch_iff n).1 q).k; omega)]
  refine ⟨h1, ?_⟩
  unfold fitB
  rw [h1]; rfl
theorem size_two (n : Nd) (hk : n.kind = 2) (h : n.keys.length = 0) : sizeN n = -1 ∧ fitB n = false := by
  have h1 : sizeN n = -1 := by
    unfold sizeN
    rw [if_neg (fun q => by have := ((leaf_iff n).1 q).k; omega), if_neg (fun q => absurd h ((inn_iff n).1 q).y), if_neg (fun q => by have := ((ch_iff n).1 q).k; omega)]
  refine ⟨h1, ?_⟩
  unfold fitB
  rw [h1]; rfl
theorem Gd.leaf {last : ByteArray} {es : List Ent} {cs : List Int} {sz : Nat} (h : Gd last es cs sz) (hn : es.length ≠ 0) : sizeN (lf es cs) = (sz : Int) ∧ fitB (lf es cs) = decide ((sz : Int) ≤ 512) := by
  have hl : leafB (lf es cs) = true := (leaf_iff _).2 ⟨rfl, hn, h.l, rfl, rfl, rfl, rfl, h.g⟩
  have h1 : sizeN (lf es cs) = (sz : Int) := by
    unfold sizeN
    rw [if_pos hl, h.s]
    rfl
  refine ⟨h1, ?_⟩
  unfold fitB
  rw [h1]
  simp
/-- Of an entry that does not stand: no leaf. -/
theorem no_snoc {last : ByteArray} {es : List Ent} {cs : List Int} {sz : Nat} (h : Gd last es cs sz) (k v : ByteArray) (c : Int) (hf : folB last k = false) (kd : Int) (ks : List ByteArray) (hs : List Int) (nx : Int) (dt : ByteArray) : leafB ⟨kd, es ++ [(k, v)], cs ++ [c], ks, hs, nx, dt⟩ ≠ true := fun q => by
  have := ((leaf_iff _).1 q).g
  simp only at this
  rw [leafG_snoc es cs _ _ _ h.l, ← h.e, hf] at this
  simp at this
theorem no_first {e : Ent} {es : List Ent} {c : Int} {cs : List Int} (hf : staB e.2 c = false) (kd : Int) (ks : List ByteArray) (hs : List Int) (nx : Int) (dt : ByteArray) : leafB ⟨kd, e :: es, c :: cs, ks, hs, nx, dt⟩ ≠ true := fun q => by
  have := ((leaf_iff _).1 q).g
  simp only [leafG, hf] at this
  simp at this
theorem fol_self (k : ByteArray) : folB k k = false := by unfold folB; simp
theorem fol_long (l k : ByteArray) (h : 120 < k.size) : folB l k = false := by
  unfold folB
  rw [decide_eq_false (p := k.size ≤ 120) (by omega)]; simp
/-- A slice of no elements. -/
def Em (v : Value) : Prop := ∃ a cap, v = .slice a 0 cap ∧ cap ≤ maxLen ∧ (a = none → cap = 0)
theorem Em.strs {v : Value} (h : Em v) (W : World) : Strs W v [] := by
  obtain ⟨a, cap, e, h1, h2⟩ := h
  exact ⟨a, cap, e, Nat.zero_le _, h1, h2, fun k hk => by simp at hk⟩
theorem Em.ints {v : Value} (h : Em v) (W : World) : Ints W v [] := by
  obtain ⟨a, cap, e, h1, h2⟩ := h
  exact ⟨a, cap, e, Nat.zero_le _, h1, h2, fun k hk => by simp at hk⟩
theorem em_nil : Em (.slice none 0 0) := ⟨none, 0, rfl, by decide, fun _ => rfl⟩
theorem em_i {B : Nat} {W : World} {v : Value} (h : OwnI B W v []) : Em v := by
  obtain ⟨a, cap, e, _, h1, h2, _⟩ := h.ints
  exact ⟨a, cap, e, h1, h2⟩
theorem em_s {B : Nat} {W : World} {v : Value} (h : OwnS B W v []) : Em v := by
  obtain ⟨a, cap, e, _, h1, h2, _⟩ := h.strs
  exact ⟨a, cap, e, h1, h2⟩
/-- The node in memory: its block gn, its entries and chains the call's own. -/
structure Bn (w W : World) (gn : Nat) (kd nx : Int) (ve vc vk vh : Value) (es : List Ent) (cs : List Int) : Prop where
  m : W.heap[gn]? = some (.cells #[.int .i64 kd, ve, vc, vk, vh, .int .i64 nx, .string ⟨#[]⟩] 27 (0, 0))
  e : OwnE w.heap.size W ve es
  c : OwnI w.heap.size W vc cs
  bl : Below w.heap.size w W
  b : w.heap.size ≤ gn
variable {w W W' : World} {gn : Nat} {kd nx : Int} {ve vc vk vh : Value} {es : List Ent} {cs : List Int}
theorem Bn.below (h : Bn w W gn kd nx ve vc vk vh es cs) (hb : Below W.heap.size W W') : Bn w W' gn kd nx ve vc vk vh es cs :=
  ⟨by rw [hb.block _ (lt_of_heap h.m)]; exact h.m, h.e.below hb, h.c.below hb, h.bl.trans (hb.mono h.bl.size), h.b⟩
theorem Bn.box (h : Bn w W gn kd nx ve vc vk vh es cs) (i : Nat) (u : Value) {kd' nx' : Int} {ve' vc' vk' vh' : Value} {es' : List Ent} {cs' : List Int} (he : (#[.int .i64 kd, ve, vc, vk, vh, .int .i64 nx, .string ⟨#[]⟩] : Array Value).setIfInBounds i u = #[.int .i64 kd', ve', vc', vk', vh', .int .i64 nx', .string ⟨#[]⟩])
    (h1 : OwnE w.heap.size W ve' es') (h2 : OwnI w.heap.size W vc' cs') : Bn w (W.setCell ⟨gn, i, none⟩ u) gn kd' nx' ve' vc' vk' vh' es' cs' := by
  have hs := kept_set (F := fun y => y = gn) W ⟨gn, i, none⟩ u rfl
  refine ⟨by rw [heap_setCell_same _ _ _ _ _ _ h.m, he], h1.kept hs (fun y hy e => ?_), h2.kept hs (fun y hy e => ?_), h.bl.trans (hs.below h.bl.size (fun x hx => by rw [hx]; exact h.b)), h.b⟩
  · obtain ⟨c1, e1⟩ := h1.row hy
    rw [e] at e1
    exact row_ne e1 h.m (by decide)
  · obtain ⟨c1, e1⟩ := h2.row hy
    rw [e] at e1
    exact row_ne e1 h.m (by decide)
/-- What an append to the entries leaves. -/
theorem Bn.growE (h : Bn w W gn kd nx ve vc vk vh es cs) (hg : W.grownBy W' ve.ownBlock) : W'.heap[gn]? = some (.cells #[.int .i64 kd, ve, vc, vk, vh, .int .i64 nx, .string ⟨#[]⟩] 27 (0, 0)) ∧ OwnI w.heap.size W' vc cs ∧ Below w.heap.size w W' := by
  have hk := grown_kept hg
  refine ⟨?_, h.c.kept hk (fun y hy e => ?_), h.bl.trans (hk.below h.bl.size (fun x hx => (h.e.lt x hx.symm).1))⟩
  · rw [hk.block gn (lt_of_heap h.m) (fun e => ?_)]
    · exact h.m
    · obtain ⟨c1, e1⟩ := h.e.row e.symm
      exact row_ne e1 h.m (by decide)
  · obtain ⟨c1, e1⟩ := h.c.row hy
    obtain ⟨c2, e2⟩ := h.e.row e.symm
    exact row_ne e1 e2 (by decide)
theorem Bn.growC (h : Bn w W gn kd nx ve vc vk vh es cs) (hg : W.grownBy W' vc.ownBlock) : W'.heap[gn]? = some (.cells #[.int .i64 kd, ve, vc, vk, vh, .int .i64 nx, .string ⟨#[]⟩] 27 (0, 0)) ∧ OwnE w.heap.size W' ve es ∧ Below w.heap.size w W' := by
  have hk := grown_kept hg
  refine ⟨?_, h.e.kept hk (fun y hy e => ?_), h.bl.trans (hk.below h.bl.size (fun x hx => (h.c.lt x hx.symm).1))⟩
  · rw [hk.block gn (lt_of_heap h.m) (fun e => ?_)]
    · exact h.m
    · obtain ⟨c1, e1⟩ := h.c.row e.symm
      exact row_ne e1 h.m (by decide)
  · obtain ⟨c1, e1⟩ := h.e.row hy
    obtain ⟨c2, e2⟩ := h.c.row e.symm
    exact row_ne e1 e2 (by decide)
theorem Bn.appE (h : Bn w W gn kd nx ve vc vk vh es cs) {v' : Value} {es' : List Ent} (he : OwnE w.heap.size W' v' es') (hg : W.grownBy W' ve.ownBlock) : Bn w (W'.setCell ⟨gn, 1, none⟩ v') gn kd nx v' vc vk vh es' cs := by
  obtain ⟨q1, q2, q3⟩ := h.growE hg
  have hs := kept_set (F := fun y => y = gn) W' ⟨gn, 1, none⟩ v' rfl
  refine ⟨by rw [heap_setCell_same _ _ _ _ _ _ q1]; rfl, he.kept hs (fun y hy e => ?_), q2.kept hs (fun y hy e => ?_), q3.trans (hs.below q3.size (fun x hx => by rw [hx]; exact h.b)), h.b⟩
  · obtain ⟨c1, e1⟩ := he.row hy
    rw [e] at e1
    exact row_ne e1 q1 (by decide)
  · obtain ⟨c1, e1⟩ := q2.row hy
    rw [e] at e1
    exact row_ne e1 q1 (by decide)
theorem Bn.appC (h : Bn w W gn kd nx ve vc vk vh es cs) {v' : Value} {cs' : List Int} (he : OwnI w.heap.size W' v' cs') (hg : W.grownBy W' vc.ownBlock) : Bn w (W'.setCell ⟨gn, 2, none⟩ v') gn kd nx ve v' vk vh es cs' := by
  obtain ⟨q1, q2, q3⟩ := h.growC hg
  have hs := kept_set (F := fun y => y = gn) W' ⟨gn, 2, none⟩ v' rfl
  refine ⟨by rw [heap_setCell_same _ _ _ _ _ _ q1]; rfl, q2.kept hs (fun y hy e => ?_), he.kept hs (fun y hy e => ?_), q3.trans (hs.below q3.size (fun x hx => by rw [hx]; exact h.b)), h.b⟩
  · obtain ⟨c1, e1⟩ := q2.row hy
    rw [e] at e1
    exact row_ne e1 q1 (by decide)
  · obtain ⟨c1, e1⟩ := he.row hy
    rw [e] at e1
    exact row_ne e1 q1 (by decide)
theorem Bn.ls (h : Bn w W gn kd nx ve vc vk vh es cs) (hk : Em vk) (hh : Em vh) : Ls W ⟨ve, vc, vk, vh⟩ ⟨kd, es, cs, [], [], nx, ⟨#[]⟩⟩ := ⟨h.e.ents, h.c.ints, hk.strs W, hh.ints W⟩
/-- An append of one entry, one chain: no small bound. -/
theorem app_entB {ops : Array Oper} {rest : List Oper} {o : Oper} {a : Act} {Q : Exit → Act → World → Prop} (hgd : o.guard = none) (s x : Operand)
    (ho : o.op = .call { callee := .builtin .append, args := #[s, x], argTypes := #[25, 25] })
    {B : Nat} {w0 : World} {v : Value} {es : List Ent} (hs : a.eval s = v) (hown : OwnE B w0 v es) (hB : B ≤ w0.heap.size) (p q : ByteArray)
    (hx : a.eval x = .slice (some ⟨w0.heap.size, 0, none⟩) 1 1) (hl : es.length ≤ 4000000)
    (h : ∀ a' n' c' w', Hid (OwnE B w' (.slice a' n' c') (es ++ [(p, q)]) ∧ w0.grownBy w' v.ownBlock) → wpList Try.prog ops Q rest (a.put o.dst (.slice a' n' c')) w') :
    wpList Try.prog ops Q (o :: rest) a (w0.alloc (.cells #[.string p, .string q] 29)) := by
  obtain ⟨i0, hi, hz0, hz1, hz2⟩ := info_parts info_ent
  refine wpList_append_own_at _ hgd s x 25 ho B 29 i0 _ 2 32 Try.underlying25 hi hz0 hz1 hz2 rfl (by decide) v es.length (cellsE es) hs (World.ownsRow.alloc hown _) ⟨w0.heap.size, 0, none⟩ 1 1 [.string p, .string q] hx rfl ?_ ?_ (by unfold maxLen; omega) (by omega) (by simp; omega) ?_
  · intro j u hj
    rw [add_plain, Nat.zero_add, World.cell?_alloc_new, ← Array.getElem?_toList]; exact hj
  · exact encE_one (p, q)
  · intro v' w' h1 h2 _ _
    have o1 : OwnE B w' v' (es ++ [(p, q)]) := by
      show w'.ownsRow _ _ _ _ _ _
      rw [cellsE_app, List.length_append]; exact h1
    obtain ⟨a7, c7, e7, _, _⟩ := o1.ents.len
    subst e7
    exact h _ _ _ w' (Lib.hid ⟨o1, grown_alloc h2⟩)
theorem app_intB {ops : Array Oper} {rest : List Oper} {o : Oper} {a : Act} {Q : Exit → Act → World → Prop} (hgd : o.guard = none) (s x : Operand)
    (ho : o.op = .call { callee := .builtin .append, args := #[s, x], argTypes := #[23, 23] })
    {B : Nat} {w0 : World} {v : Value} {l : List Int} (hs : a.eval s = v) (hown : OwnI B w0 v l) (hB : B ≤ w0.heap.size) (n : Int)
    (hx : a.eval x = .slice (some ⟨w0.heap.size, 0, none⟩) 1 1) (hl : l.length ≤ 4000000)
    (h : ∀ a' n' c' w', Hid (OwnI B w' (.slice a' n' c') (l ++ [n]) ∧ w0.grownBy w' v.ownBlock) → wpList Try.prog ops Q rest (a.put o.dst (.slice a' n' c')) w') :
    wpList Try.prog ops Q (o :: rest) a (w0.alloc (.cells #[.int .i64 n] 3)) := by
  refine app_new hgd s x ho (m := [n]) rfl hs hown hB hx rfl (by simp; omega) ?_
  intro v' w' h1 h2 _
  obtain ⟨a7, c7, e7, _, _⟩ := h1.len
  subst e7
  exact h _ _ _ w' (Lib.hid ⟨h1, h2⟩)
end Ps
end Go.Proofs.Ytmoghdpjemidgaa
