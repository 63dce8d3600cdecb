/-
  What marked is made of: a node that grows, appends of more than one.
-/
import Derived.Test.YtdlkebmndjmpdaaPgCp
import Derived.Test.YtdlkebmndjmpdaaPgDe
namespace Go.Proofs.Ytdlkebmndjmpdaa
open Go.RowKit Go.Maps

/-- A node that grows: its block gm is made behind its lists. -/
structure Nq (w W : World) (B gs gm : Nat) (kd nx : Int) (dt : ByteArray) (v : Nv) (n : Nd) : Prop where
  s : W.heap[gs]? = some (.cells zN 27 (0, 0))
  m : W.heap[gm]? = some (.cells #[.int .i64 kd, v.e, v.c, v.k, v.h, .int .i64 nx, .string dt] 27 (0, 0))
  o : Ow B W v n
  b : w.heap.size ≤ gs ∧ w.heap.size ≤ gm ∧ w.heap.size ≤ B ∧ gs ≠ gm
  bl : Below w.heap.size w W
theorem Nq.big {w W : World} {B gs gm : Nat} {kd nx : Int} {dt : ByteArray} {v : Nv} {n : Nd} (h : Nq w W B gs gm kd nx dt v n) (hB : B ≤ gm) : B ≤ W.heap.size := by
  have := lt_of_heap h.m; omega
theorem Nq.ent {w W W' : World} {B gs gm : Nat} {kd nx : Int} {dt : ByteArray} {v : Nv} {n : Nd} {v' : Value} {es : List Ent} (h : Nq w W B gs gm kd nx dt v n) (he : OwnE B W' v' es) (hg : W.grownBy W' v.e.ownBlock) :
    Nq w (W'.setCell ⟨gm, 1, none⟩ v') B gs gm kd nx dt ⟨v', v.c, v.k, v.h⟩ { n with ents := es } := by
  have hk := grown_kept hg
  have n0 : ∀ y c, W.heap[y]? = some (.cells c 27 (0, 0)) → ¬ some y = v.e.ownBlock := fun y c hy e => by
    obtain ⟨c1, e1⟩ := h.o.e.row e.symm
    exact row_ne e1 hy (by decide)
  have hm : W'.heap[gm]? = _ := (hk.block gm (lt_of_heap h.m) (n0 gm _ h.m)).trans h.m
  have hs := kept_set (F := fun y => y = gm) W' ⟨gm, 1, none⟩ v' rfl
  have hb := h.b
  have xc : ∀ y, v.c.ownBlock = some y → ¬ y = gm := fun y hy e => by
    obtain ⟨c1, e1⟩ := h.o.c.row hy
    rw [e] at e1
    exact row_ne e1 h.m (by decide)
  have yc : ∀ y, v.c.ownBlock = some y → ¬ some y = v.e.ownBlock := fun y hy e => by
    obtain ⟨c1, e1⟩ := h.o.c.row hy
    obtain ⟨c2, e2⟩ := h.o.e.row e.symm
    exact row_ne e1 e2 (by decide)
  have xk : ∀ y, v.k.ownBlock = some y → ¬ y = gm := fun y hy e => by
    obtain ⟨c1, e1⟩ := h.o.k.row hy
    rw [e] at e1
    exact row_ne e1 h.m (by decide)
  have yk : ∀ y, v.k.ownBlock = some y → ¬ some y = v.e.ownBlock := fun y hy e => by
    obtain ⟨c1, e1⟩ := h.o.k.row hy
    obtain ⟨c2, e2⟩ := h.o.e.row e.symm
    exact row_ne e1 e2 (by decide)
  have xh : ∀ y, v.h.ownBlock = some y → ¬ y = gm := fun y hy e => by
    obtain ⟨c1, e1⟩ := h.o.h.row hy
    rw [e] at e1
    exact row_ne e1 h.m (by decide)
  have yh : ∀ y, v.h.ownBlock = some y → ¬ some y = v.e.ownBlock := fun y hy e => by
    obtain ⟨c1, e1⟩ := h.o.h.row hy
    obtain ⟨c2, e2⟩ := h.o.e.row e.symm
    exact row_ne e1 e2 (by decide)
  have xe : ∀ y, v'.ownBlock = some y → ¬ y = gm := fun y hy e => by
    obtain ⟨c1, e1⟩ := he.row hy
    rw [e] at e1
    exact row_ne e1 hm (by decide)
  refine ⟨?_, by rw [heap_setCell_same _ _ _ _ _ _ hm]; rfl, ⟨?_, ?_, ?_, ?_, ?_⟩, h.b, ?_⟩
  · rw [hs.block gs (Nat.lt_of_lt_of_le (lt_of_heap h.s) hk.size) (by omega), hk.block gs (lt_of_heap h.s) (n0 gs _ h.s)]; exact h.s
  · exact he.kept hs (fun y hy => xe y hy)
  · exact (h.o.c.kept hk (fun y hy => yc y hy)).kept hs (fun y hy => xc y hy)
  · exact (h.o.k.kept hk (fun y hy => yk y hy)).kept hs (fun y hy => xk y hy)
  · exact (h.o.h.kept hk (fun y hy => yh y hy)).kept hs (fun y hy => xh y hy)
  · exact h.o.ap
  · refine (h.bl.trans (hk.below h.bl.size (fun x hx => ?_))).trans (hs.below (Nat.le_trans h.bl.size hk.size) (fun x hx => by omega))
    have := (h.o.e.lt x hx.symm).1; omega
theorem Nq.chain {w W W' : World} {B gs gm : Nat} {kd nx : Int} {dt : ByteArray} {v : Nv} {n : Nd} {v' : Value} {es : List Int} (h : Nq w W B gs gm kd nx dt v n) (he : OwnI B W' v' es) (hg : W.grownBy W' v.c.ownBlock) (ha : At v.c v' W) :
    Nq w (W'.setCell ⟨gm, 2, none⟩ v') B gs gm kd nx dt ⟨v.e, v', v.k, v.h⟩ { n with chs := es } := by
  have hk := grown_kept hg
  have n0 : ∀ y c, W.heap[y]? = some (.cells c 27 (0, 0)) → ¬ some y = v.c.ownBlock := fun y c hy e => by
    obtain ⟨c1, e1⟩ := h.o.c.row e.symm
    exact row_ne e1 hy (by decide)
  have hm : W'.heap[gm]? = _ := (hk.block gm (lt_of_heap h.m) (n0 gm _ h.m)).trans h.m
  have hs := kept_set (F := fun y => y = gm) W' ⟨gm, 2, none⟩ v' rfl
  have hb := h.b
  have xe : ∀ y, v.e.ownBlock = some y → ¬ y = gm := fun y hy e => by
    obtain ⟨c1, e1⟩ := h.o.e.row hy
    rw [e] at e1
    exact row_ne e1 h.m (by decide)
  have ye : ∀ y, v.e.ownBlock = some y → ¬ some y = v.c.ownBlock := fun y hy e => by
    obtain ⟨c1, e1⟩ := h.o.e.row hy
    obtain ⟨c2, e2⟩ := h.o.c.row e.symm
    exact row_ne e1 e2 (by decide)
  have xk : ∀ y, v.k.ownBlock = some y → ¬ y = gm := fun y hy e => by
    obtain ⟨c1, e1⟩ := h.o.k.row hy
    rw [e] at e1
    exact row_ne e1 h.m (by decide)
  have yk : ∀ y, v.k.ownBlock = some y → ¬ some y = v.c.ownBlock := fun y hy e => by
    obtain ⟨c1, e1⟩ := h.o.k.row hy
    obtain ⟨c2, e2⟩ := h.o.c.row e.symm
    exact row_ne e1 e2 (by decide)
  have xh : ∀ y, v.h.ownBlock = some y → ¬ y = gm := fun y hy e => by
    obtain ⟨c1, e1⟩ := h.o.h.row hy
    rw [e] at e1
    exact row_ne e1 h.m (by decide)
  have yh : ∀ y, v.h.ownBlock = some y → ¬ some y = v.c.ownBlock := fun y hy e => by
    exact h.o.ap y e.symm hy
  have xc : ∀ y, v'.ownBlock = some y → ¬ y = gm := fun y hy e => by
    obtain ⟨c1, e1⟩ := he.row hy
    rw [e] at e1
    exact row_ne e1 hm (by decide)
  refine ⟨?_, by rw [heap_setCell_same _ _ _ _ _ _ hm]; rfl, ⟨?_, ?_, ?_, ?_, ?_⟩, h.b, ?_⟩
  · rw [hs.block gs (Nat.lt_of_lt_of_le (lt_of_heap h.s) hk.size) (by omega), hk.block gs (lt_of_heap h.s) (n0 gs _ h.s)]; exact h.s
  · exact (h.o.e.kept hk (fun y hy => ye y hy)).kept hs (fun y hy => xe y hy)
  · exact he.kept hs (fun y hy => xc y hy)
  · exact (h.o.k.kept hk (fun y hy => yk y hy)).kept hs (fun y hy => xk y hy)
  · exact (h.o.h.kept hk (fun y hy => yh y hy)).kept hs (fun y hy => xh y hy)
  · intro g h1 h2
    rcases ha g h1.symm with q | q
    · exact h.o.ap g q.symm h2
    · have := (h.o.h.lt g h2).2; omega
  · refine (h.bl.trans (hk.below h.bl.size (fun x hx => ?_))).trans (hs.below (Nat.le_trans h.bl.size hk.size) (fun x hx => by omega))
    have := (h.o.c.lt x hx.symm).1; omega
theorem Nq.key {w W W' : World} {B gs gm : Nat} {kd nx : Int} {dt : ByteArray} {v : Nv} {n : Nd} {v' : Value} {es : List ByteArray} (h : Nq w W B gs gm kd nx dt v n) (he : OwnS B W' v' es) (hg : W.grownBy W' v.k.ownBlock) :
    Nq w (W'.setCell ⟨gm, 3, none⟩ v') B gs gm kd nx dt ⟨v.e, v.c, v', v.h⟩ { n with keys := es } := by
  have hk := grown_kept hg
  have n0 : ∀ y c, W.heap[y]? = some (.cells c 27 (0, 0)) → ¬ some y = v.k.ownBlock := fun y c hy e => by
    obtain ⟨c1, e1⟩ := h.o.k.row e.symm
    exact row_ne e1 hy (by decide)
  have hm : W'.heap[gm]? = _ := (hk.block gm (lt_of_heap h.m) (n0 gm _ h.m)).trans h.m
  have hs := kept_set (F := fun y => y = gm) W' ⟨gm, 3, none⟩ v' rfl
  have hb := h.b
  have xe : ∀ y, v.e.ownBlock = some y → ¬ y = gm := fun y hy e => by
    obtain ⟨c1, e1⟩ := h.o.e.row hy
    rw [e] at e1
    exact row_ne e1 h.m (by decide)
  have ye : ∀ y, v.e.ownBlock = some y → ¬ some y = v.k.ownBlock := fun y hy e => by
    obtain ⟨c1, e1⟩ := h.o.e.row hy
    obtain ⟨c2, e2⟩ := h.o.k.row e.symm
    exact row_ne e1 e2 (by decide)
  have xc : ∀ y, v.c.ownBlock = some y → ¬ y = gm := fun y hy e => by
    obtain ⟨c1, e1⟩ := h.o.c.row hy
    rw [e] at e1
    exact row_ne e1 h.m (by decide)
  have yc : ∀ y, v.c.ownBlock = some y → ¬ some y = v.k.ownBlock := fun y hy e => by
    obtain ⟨c1, e1⟩ := h.o.c.row hy
    obtain ⟨c2, e2⟩ := h.o.k.row e.symm
    exact row_ne e1 e2 (by decide)
  have xh : ∀ y, v.h.ownBlock = some y → ¬ y = gm := fun y hy e => by
    obtain ⟨c1, e1⟩ := h.o.h.row hy
    rw [e] at e1
    exact row_ne e1 h.m (by decide)
  have yh : ∀ y, v.h.ownBlock = some y → ¬ some y = v.k.ownBlock := fun y hy e => by
    obtain ⟨c1, e1⟩ := h.o.h.row hy
    obtain ⟨c2, e2⟩ := h.o.k.row e.symm
    exact row_ne e1 e2 (by decide)
  have xk : ∀ y, v'.ownBlock = some y → ¬ y = gm := fun y hy e => by
    obtain ⟨c1, e1⟩ := he.row hy
    rw [e] at e1
    exact row_ne e1 hm (by decide)
  refine ⟨?_, by rw [heap_setCell_same _ _ _ _ _ _ hm]; rfl, ⟨?_, ?_, ?_, ?_, ?_⟩, h.b, ?_⟩
  · rw [hs.block gs (Nat.lt_of_lt_of_le (lt_of_heap h.s) hk.size) (by omega), hk.block gs (lt_of_heap h.s) (n0 gs _ h.s)]; exact h.s
  · exact (h.o.e.kept hk (fun y hy => ye y hy)).kept hs (fun y hy => xe y hy)
  · exact (h.o.c.kept hk (fun y hy => yc y hy)).kept hs (fun y hy => xc y hy)
  · exact he.kept hs (fun y hy => xk y hy)
  · exact (h.o.h.kept hk (fun y hy => yh y hy)).kept hs (fun y hy => xh y hy)
  · exact h.o.ap
  · refine (h.bl.trans (hk.below h.bl.size (fun x hx => ?_))).trans (hs.below (Nat.le_trans h.bl.size hk.size) (fun x hx => by omega))
    have := (h.o.k.lt x hx.symm).1; omega
theorem Nq.kid {w W W' : World} {B gs gm : Nat} {kd nx : Int} {dt : ByteArray} {v : Nv} {n : Nd} {v' : Value} {es : List Int} (h : Nq w W B gs gm kd nx dt v n) (he : OwnI B W' v' es) (hg : W.grownBy W' v.h.ownBlock) (ha : At v.h v' W) :
    Nq w (W'.setCell ⟨gm, 4, none⟩ v') B gs gm kd nx dt ⟨v.e, v.c, v.k, v'⟩ { n with kids := es } := by
  have hk := grown_kept hg
  have n0 : ∀ y c, W.heap[y]? = some (.cells c 27 (0, 0)) → ¬ some y = v.h.ownBlock := fun y c hy e => by
    obtain ⟨c1, e1⟩ := h.o.h.row e.symm
    exact row_ne e1 hy (by decide)
  have hm : W'.heap[gm]? = _ := (hk.block gm (lt_of_heap h.m) (n0 gm _ h.m)).trans h.m
  have hs := kept_set (F := fun y => y = gm) W' ⟨gm, 4, none⟩ v' rfl
  have hb := h.b
  have xe : ∀ y, v.e.ownBlock = some y → ¬ y = gm := fun y hy e => by
    obtain ⟨c1, e1⟩ := h.o.e.row hy
    rw [e] at e1
    exact row_ne e1 h.m (by decide)
  have ye : ∀ y, v.e.ownBlock = some y → ¬ some y = v.h.ownBlock := fun y hy e => by
    obtain ⟨c1, e1⟩ := h.o.e.row hy
    obtain ⟨c2, e2⟩ := h.o.h.row e.symm
    exact row_ne e1 e2 (by decide)
  have xc : ∀ y, v.c.ownBlock = some y → ¬ y = gm := fun y hy e => by
    obtain ⟨c1, e1⟩ := h.o.c.row hy
    rw [e] at e1
    exact row_ne e1 h.m (by decide)
  have yc : ∀ y, v.c.ownBlock = some y → ¬ some y = v.h.ownBlock := fun y hy e => by
    exact h.o.ap y hy e.symm
  have xk : ∀ y, v.k.ownBlock = some y → ¬ y = gm := fun y hy e => by
    obtain ⟨c1, e1⟩ := h.o.k.row hy
    rw [e] at e1
    exact row_ne e1 h.m (by decide)
  have yk : ∀ y, v.k.ownBlock = some y → ¬ some y = v.h.ownBlock := fun y hy e => by
    obtain ⟨c1, e1⟩ := h.o.k.row hy
    obtain ⟨c2, e2⟩ := h.o.h.row e.symm
    exact row_ne e1 e2 (by decide)
  have xh : ∀ y, v'.ownBlock = some y → ¬ y = gm := fun y hy e => by
    obtain ⟨c1, e1⟩ := he.row hy
    rw [e] at e1
    exact row_ne e1 hm (by decide)
  refine ⟨?_, by rw [heap_setCell_same _ _ _ _ _ _ hm]; rfl, ⟨?_, ?_, ?_, ?_, ?_⟩, h.b, ?_⟩
  · rw [hs.block gs (Nat.lt_of_lt_of_le (lt_of_heap h.s) hk.size) (by omega), hk.block gs (lt_of_heap h.s) (n0 gs _ h.s)]; exact h.s
  · exact (h.o.e.kept hk (fun y hy => ye y hy)).kept hs (fun y hy => xe y hy)
  · exact (h.o.c.kept hk (fun y hy => yc y hy)).kept hs (fun y hy => xc y hy)
  · exact (h.o.k.kept hk (fun y hy => yk y hy)).kept hs (fun y hy => xk y hy)
  · exact he.kept hs (fun y hy => xh y hy)
  · intro g h1 h2
    rcases ha g h2.symm with q | q
    · exact h.o.ap g h1 q.symm
    · have := (h.o.c.lt g h1).2; omega
  · refine (h.bl.trans (hk.below h.bl.size (fun x hx => ?_))).trans (hs.below (Nat.le_trans h.bl.size hk.size) (fun x hx => by omega))
    have := (h.o.h.lt x hx.symm).1; omega
theorem app_ents {ops : Array Oper} {rest : List Oper} {o : Oper} {a : Act} {Q : Exit → Act → World → Prop} (hgd : o.guard = none) (s x : Operand)
    (ho : o.op = .call { callee := .builtin .append, args := #[s, x], argTypes := #[25, 25] })
    {B : Nat} {w0 : World} {v : Value} {l : List Ent} (m : List Ent) (C : Array Value) (N : Nat) (hC : C = (cellsE m).toArray) (hN : N = m.length) (hs : a.eval s = v) (hown : OwnE B w0 v l) (hB : B ≤ w0.heap.size)
    (hx : a.eval x = .slice (some ⟨w0.heap.size, 0, none⟩) N N) (hl : l.length + m.length ≤ 4398046511104)
    (h : ∀ a' n' c' w', Hid (OwnE B w' (.slice a' n' c') (l ++ m) ∧ w0.grownBy w' v.ownBlock) → wpList Try.prog ops Q rest (a.put o.dst (.slice a' n' c')) w') :
    wpList Try.prog ops Q (o :: rest) a (w0.alloc (.cells C 29)) := by
  subst hC hN
  obtain ⟨i0, hi, hz0, hz1, hz2⟩ := info_parts info_ent
  refine wpList_append_own_at _ hgd s x 25 ho B 29 i0 _ 2 32 Try.underlying25 hi hz0 hz1 hz2 rfl (by decide) v l.length (cellsE l) hs (World.ownsRow.alloc hown _) ⟨w0.heap.size, 0, none⟩ m.length m.length (cellsE m) hx (by rw [cellsE_length]) ?_ (cellsE_one m) (by unfold maxLen; omega) (by omega) (by simp; omega) ?_
  · intro j u hj
    rw [add_plain, Nat.zero_add, World.cell?_alloc_new, List.getElem?_toArray]; exact hj
  · intro v' w' h1 h2 _ h3
    have o2 : OwnE B w' v' (l ++ m) := by
      show w'.ownsRow _ _ _ _ _ _
      rw [cellsE_app, List.length_append]; exact h1
    obtain ⟨a7, c7, h7, _⟩ := o2.ents.len
    subst h7
    exact h _ _ _ w' (Lib.hid ⟨o2, grown_alloc h2⟩)
theorem app_intsA {ops : Array Oper} {rest : List Oper} {o : Oper} {a : Act} {Q : Exit → Act → World → Prop} (hgd : o.guard = none) (s x : Operand)
    (ho : o.op = .call { callee := .builtin .append, args := #[s, x], argTypes := #[23, 23] })
    {B : Nat} {w0 : World} {v : Value} {l : List Int} (m : List Int) (C : Array Value) (N : Nat) (hC : C = (cellsI m).toArray) (hN : N = m.length) (hs : a.eval s = v) (hown : OwnI B w0 v l) (hB : B ≤ w0.heap.size)
    (hx : a.eval x = .slice (some ⟨w0.heap.size, 0, none⟩) N N) (hl : l.length + m.length ≤ 17592186044416)
    (h : ∀ a' n' c' w', Hid (OwnI B w' (.slice a' n' c') (l ++ m) ∧ w0.grownBy w' v.ownBlock ∧ At v (.slice a' n' c') w0) → wpList Try.prog ops Q rest (a.put o.dst (.slice a' n' c')) w') :
    wpList Try.prog ops Q (o :: rest) a (w0.alloc (.cells C 3)) := by
  subst hC hN
  obtain ⟨i0, hi, hz0, hz1, hz2⟩ := info_parts info_int
  refine wpList_append_own_at _ hgd s x 23 ho B 3 i0 (.int .i64 0) 1 8 Try.underlying23 hi hz0 hz1 hz2 rfl (by decide) v l.length (cellsI l) hs (World.ownsRow.alloc hown _) ⟨w0.heap.size, 0, none⟩ m.length m.length (cellsI m) hx (by rw [cellsI_length]; omega) ?_ (cellsI_one m) (by unfold maxLen; omega) (by omega) (by simp; omega) ?_
  · intro j u hj
    rw [add_plain, Nat.zero_add, World.cell?_alloc_new, List.getElem?_toArray]; exact hj
  · intro v' w' h1 h2 _ h3
    have o2 : OwnI B w' v' (l ++ m) := by
      show w'.ownsRow _ _ _ _ _ _
      rw [cellsI_app, List.length_append]; exact h1
    obtain ⟨a7, c7, h7, _⟩ := o2.len
    subst h7
    exact h _ _ _ w' (Lib.hid ⟨o2, grown_alloc h2, at_of h3 (by simp)⟩)
theorem app_strsA {ops : Array Oper} {rest : List Oper} {o : Oper} {a : Act} {Q : Exit → Act → World → Prop} (hgd : o.guard = none) (s x : Operand)
    (ho : o.op = .call { callee := .builtin .append, args := #[s, x], argTypes := #[22, 22] })
    {B : Nat} {w0 : World} {v : Value} {l : List ByteArray} (m : List ByteArray) (C : Array Value) (N : Nat) (hC : C = (cellsS m).toArray) (hN : N = m.length) (hs : a.eval s = v) (hown : OwnS B w0 v l) (hB : B ≤ w0.heap.size)
    (hx : a.eval x = .slice (some ⟨w0.heap.size, 0, none⟩) N N) (hl : l.length + m.length ≤ 8796093022208)
    (h : ∀ a' n' c' w', Hid (OwnS B w' (.slice a' n' c') (l ++ m) ∧ w0.grownBy w' v.ownBlock) → wpList Try.prog ops Q rest (a.put o.dst (.slice a' n' c')) w') :
    wpList Try.prog ops Q (o :: rest) a (w0.alloc (.cells C 9)) := by
  subst hC hN
  obtain ⟨i0, hi, hz0, hz1, hz2⟩ := info_parts info_str
  refine wpList_append_own_at _ hgd s x 22 ho B 9 i0 _ 1 16 Try.underlying22 hi hz0 hz1 hz2 rfl (by decide) v l.length (cellsS l) hs (World.ownsRow.alloc hown _) ⟨w0.heap.size, 0, none⟩ m.length m.length (cellsS m) hx (by simp [cellsS]) ?_ (by intro v hv; simp only [cellsS, List.mem_map] at hv; obtain ⟨c, _, rfl⟩ := hv; rfl) (by unfold maxLen; omega) (by omega) (by simp; omega) ?_
  · intro j u hj
    rw [add_plain, Nat.zero_add, World.cell?_alloc_new, List.getElem?_toArray]; exact hj
  · intro v' w' h1 h2 _ h3
    have o2 : OwnS B w' v' (l ++ m) := by
      show w'.ownsRow _ _ _ _ _ _
      rw [(by simp [cellsS] : cellsS (l ++ m) = cellsS l ++ cellsS m), List.length_append]; exact h1
    obtain ⟨a7, c7, h7, _⟩ := o2.strs.len
    subst h7
    exact h _ _ _ w' (Lib.hid ⟨o2, grown_alloc h2⟩)
def mkT : ByteArray := ⟨#[109, 97, 114, 107]⟩
def krT : ByteArray := ⟨#[107, 114, 97, 109]⟩
/-- The node, marked. -/
def mkN (n : Nd) : Nd := ⟨n.kind, n.ents ++ [(mkT, ⟨#[]⟩), (mkT, ⟨#[]⟩)], n.chs ++ [-71, -72], n.keys ++ [mkT, krT], n.kids ++ [-73, -74], n.next, n.data⟩
theorem Nq.alloc {w W : World} {B gs gm : Nat} {kd nx : Int} {dt : ByteArray} {v : Nv} {n : Nd} (h : Nq w W B gs gm kd nx dt v n) (ob : Obj) : Nq w (W.alloc ob) B gs gm kd nx dt v n := by
  have b := (Below.refl W.heap.size W).alloc (Nat.le_refl _) ob
  exact ⟨(b.block gs (lt_of_heap h.s)).trans h.s, (b.block gm (lt_of_heap h.m)).trans h.m, h.o.below b, h.b, h.bl.trans (b.mono h.bl.size)⟩

theorem ow_one {B : Nat} {w : World} {v : Nv} {n : Nd} (h : Ow B w v n) : v.e.oneCell' = true ∧ v.c.oneCell' = true ∧ v.k.oneCell' = true ∧ v.h.oneCell' = true := by
  obtain ⟨ae, ce, he, _, _⟩ := h.e.ents.len; obtain ⟨ac, cc, hc, _, _⟩ := h.c.ints.len; obtain ⟨ak, ck, hk, _, _⟩ := h.k.strs.len; obtain ⟨ah, ch, hh, _, _⟩ := h.h.ints.len
  rw [he, hc, hk, hh]; exact ⟨rfl, rfl, rfl, rfl⟩
theorem mk_start {w X2 w1 X3 X4 : World} {gs gm : Nat} {kd nx : Int} {dt : ByteArray} {v : Nv} {n : Nd} {c0 : Array Value}
    (S2 : X2.heap[gs]? = some (.cells zN 27 (0, 0)) ∧ w.heap.size ≤ gs ∧ gs < X2.heap.size ∧ Below w.heap.size w X2)
    (O1 : Ow X2.heap.size w1 v n ∧ Below X2.heap.size X2 w1) (LG : X2.heap.size ≤ gm ∧ w1.heap.size ≤ gm ∧ Below w1.heap.size w1 X3)
    (GM : X3.heap[gm]? = some (.cells c0 27 (0, 0))) (h4 : X4 = X3.setRow gm #[.int .i64 kd, v.e, v.c, v.k, v.h, .int .i64 nx, .string dt]) :
    Nq w X4 X2.heap.size gs gm kd nx dt v n := by
  have hkp := kept_setRow X3 gm #[.int .i64 kd, v.e, v.c, v.k, v.h, .int .i64 nx, .string dt]
  rw [← h4] at hkp
  have b4 : Below w1.heap.size w1 X4 := LG.2.2.trans (hkp.below LG.2.2.size (fun x hx => by omega))
  have b5 : Below X2.heap.size X2 X4 := O1.2.trans (b4.mono O1.2.size)
  have s2 := S2.2.2.2.size
  exact ⟨(b5.block gs S2.2.2.1).trans S2.1, by rw [h4]; exact setRow_heap _ _ _ _ _ _ GM, O1.1.below b4, ⟨S2.2.1, by omega, s2, by omega⟩, S2.2.2.2.trans (b5.mono s2)⟩
end Go.Proofs.Ytdlkebmndjmpdaa
