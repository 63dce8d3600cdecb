/-
  Several texts as one.
-/
import Derived.Test.YtdlkebmndjmpdaaPgCp
import Derived.Test.YtdlkebmndjmpdaaPgDe
import Derived.Test.YtdlkebmndjmpdaaPgRn
import Derived.Test.YtdlkebmndjmpdaaPgRf
import Derived.Test.YtdlkebmndjmpdaaPgEb
import Derived.Test.YtdlkebmndjmpdaaPgQ
import Derived.Test.YtdlkebmndjmpdaaPgZ
import Derived.Test.YtdlkebmndjmpdaaPuB
import Derived.Test.YtdlkebmndjmpdaaOpenD
import Derived.Deep.RegionHeldLaw
namespace Go.Proofs.Ytdlkebmndjmpdaa
open Go.RowKit Go.Maps
/-- A node that grows: its block gm is made behind its lists. -/
structure Nq (w W : World) (B gs gm : Nat) (kd nx : Int) (dt : ByteArray) (v : Nv) (n : Nd) : Prop where
  s : W.heap[gs]? = some (.cells zN 27 (0, 0))
  m : W.heap[gm]? = some (.cells #[.int .i64 kd, v.e, v.c, v.k, v.h, .int .i64 nx, .string dt] 27 (0, 0))
  o : Ow B W v n
  b : w.heap.size ≤ gs ∧ w.heap.size ≤ gm ∧ w.heap.size ≤ B ∧ gs ≠ gm
  bl : Below w.heap.size w W
theorem Nq.big {w W : World} {B gs gm : Nat} {kd nx : Int} {dt : ByteArray} {v : Nv} {n : Nd} (h : Nq w W B gs gm kd nx dt v n) (hB : B ≤ gm) : B ≤ W.heap.size := by
  have := lt_of_heap h.m; omega
theorem Nq.ent {w W W' : World} {B gs gm : Nat} {kd nx : Int} {dt : ByteArray} {v : Nv} {n : Nd} {v' : Value} {es : List Ent} (h : Nq w W B gs gm kd nx dt v n) (he : OwnE B W' v' es) (hg : W.grownBy W' v.e.ownBlock) :
    Nq w (W'.setCell ⟨gm, 1, none⟩ v') B gs gm kd nx dt ⟨v', v.c, v.k, v.h⟩ { n with ents := es } := by
  have hk := grown_kept hg
  have n0 : ∀ y c, W.heap[y]? = some (.cells c 27 (0, 0)) → ¬ some y = v.e.ownBlock := fun y c hy e => by
    obtain ⟨c1, e1⟩ := h.o.e.row e.symm
    exact row_ne e1 hy (by decide)
  have hm : W'.heap[gm]? = _ := (hk.block gm (lt_of_heap h.m) (n0 gm _ h.m)).trans h.m
  have hs := kept_set (F := fun y => y = gm) W' ⟨gm, 1, none⟩ v' rfl
  have hb := h.b
  have xc : ∀ y, v.c.ownBlock = some y → ¬ y = gm := fun y hy e => by
    obtain ⟨c1, e1⟩ := h.o.c.row hy
    rw [e] at e1
    exact row_ne e1 h.m (by decide)
  have yc : ∀ y, v.c.ownBlock = some y → ¬ some y = v.e.ownBlock := fun y hy e => by
    obtain ⟨c1, e1⟩ := h.o.c.row hy
    obtain ⟨c2, e2⟩ := h.o.e.row e.symm
    exact row_ne e1 e2 (by decide)
  have xk : ∀ y, v.k.ownBlock = some y → ¬ y = gm := fun y hy e => by
    obtain ⟨c1, e1⟩ := h.o.k.row hy
    rw [e] at e1
    exact row_ne e1 h.m (by decide)
  have yk : ∀ y, v.k.ownBlock = some y → ¬ some y = v.e.ownBlock := fun y hy e => by
    obtain ⟨c1, e1⟩ := h.o.k.row hy
    obtain ⟨c2, e2⟩ := h.o.e.row e.symm
    exact row_ne e1 e2 (by decide)
  have xh : ∀ y, v.h.ownBlock = some y → ¬ y = gm := fun y hy e => by
    obtain ⟨c1, e1⟩ := h.o.h.row hy
    rw [e] at e1
    exact row_ne e1 h.m (by decide)
  have yh : ∀ y, v.h.ownBlock = some y → ¬ some y = v.e.ownBlock := fun y hy e => by
    obtain ⟨c1, e1⟩ := h.o.h.row hy
    obtain ⟨c2, e2⟩ := h.o.e.row e.symm
    exact row_ne e1 e2 (by decide)
  have xe : ∀ y, v'.ownBlock = some y → ¬ y = gm := fun y hy e => by
    obtain ⟨c1, e1⟩ := he.row hy
    rw [e] at e1
    exact row_ne e1 hm (by decide)
  refine ⟨?_, by rw [heap_setCell_same _ _ _ _ _ _ hm]; rfl, ⟨?_, ?_, ?_, ?_, ?_⟩, h.b, ?_⟩
  · rw [hs.block gs (Nat.lt_of_lt_of_le (lt_of_heap h.s) hk.size) (by omega), hk.block gs (lt_of_heap h.s) (n0 gs _ h.s)]; exact h.s
  · exact he.kept hs (fun y hy => xe y hy)
  · exact (h.o.c.kept hk (fun y hy => yc y hy)).kept hs (fun y hy => xc y hy)
  · exact (h.o.k.kept hk (fun y hy => yk y hy)).kept hs (fun y hy => xk y hy)
  · exact (h.o.h.kept hk (fun y hy => yh y hy)).kept hs (fun y hy => xh y hy)
  · exact h.o.ap
  · refine (h.bl.trans (hk.below h.bl.size (fun x hx => ?_))).trans (hs.below (Nat.le_trans h.bl.size hk.size) (fun x hx => by omega))
    have := (h.o.e.lt x hx.symm).1; omega
theorem Nq.chain {w W W' : World} {B gs gm : Nat} {kd nx : Int} {dt : ByteArray} {v : Nv} {n : Nd} {v' : Value} {es : List Int} (h : Nq w W B gs gm kd nx dt v n) (he : OwnI B W' v' es) (hg : W.grownBy W' v.c.ownBlock) (ha : At v.c v' W) :
    Nq w (W'.setCell ⟨gm, 2, none⟩ v') B gs gm kd nx dt ⟨v.e, v', v.k, v.h⟩ { n with chs := es } := by
  have hk := grown_kept hg
  have n0 : ∀ y c, W.heap[y]? = some (.cells c 27 (0, 0)) → ¬ some y = v.c.ownBlock := fun y c hy e => by
    obtain ⟨c1, e1⟩ := h.o.c.row e.symm
    exact row_ne e1 hy (by decide)
  have hm : W'.heap[gm]? = _ := (hk.block gm (lt_of_heap h.m) (n0 gm _ h.m)).trans h.m
  have hs := kept_set (F := fun y => y = gm) W' ⟨gm, 2, none⟩ v' rfl
  have hb := h.b
  have xe : ∀ y, v.e.ownBlock = some y → ¬ y = gm := fun y hy e => by
    obtain ⟨c1, e1⟩ := h.o.e.row hy
    rw [e] at e1
    exact row_ne e1 h.m (by decide)
  have ye : ∀ y, v.e.ownBlock = some y → ¬ some y = v.c.ownBlock := fun y hy e => by
    obtain ⟨c1, e1⟩ := h.o.e.row hy
    obtain ⟨c2, e2⟩ := h.o.c.row e.symm
    exact row_ne e1 e2 (by decide)
  have xk : ∀ y, v.k.ownBlock = some y → ¬ y = gm := fun y hy e => by
    obtain ⟨c1, e1⟩ := h.o.k.row hy
    rw [e] at e1
    exact row_ne e1 h.m (by decide)
  have yk : ∀ y, v.k.ownBlock = some y → ¬ some y = v.c.ownBlock := fun y hy e => by
    obtain ⟨c1, e1⟩ := h.o.k.row hy
    obtain ⟨c2, e2⟩ := h.o.c.row e.symm
    exact row_ne e1 e2 (by decide)
  have xh : ∀ y, v.h.ownBlock = some y → ¬ y = gm := fun y hy e => by
    obtain ⟨c1, e1⟩ := h.o.h.row hy
    rw [e] at e1
    exact row_ne e1 h.m (by decide)
  have yh : ∀ y, v.h.ownBlock = some y → ¬ some y = v.c.ownBlock := fun y hy e => by
    exact h.o.ap y e.symm hy
  have xc : ∀ y, v'.ownBlock = some y → ¬ y = gm := fun y hy e => by
    obtain ⟨c1, e1⟩ := he.row hy
    rw [e] at e1
    exact row_ne e1 hm (by decide)
  refine ⟨?_, by rw [heap_setCell_same _ _ _ _ _ _ hm]; rfl, ⟨?_, ?_, ?_, ?_, ?_⟩, h.b, ?_⟩
  · rw [hs.block gs (Nat.lt_of_lt_of_le (lt_of_heap h.s) hk.size) (by omega), hk.block gs (lt_of_heap h.s) (n0 gs _ h.s)]; exact h.s
  · exact (h.o.e.kept hk (fun y hy => ye y hy)).kept hs (fun y hy => xe y hy)
  · exact he.kept hs (fun y hy => xc y hy)
  · exact (h.o.k.kept hk (fun y hy => yk y hy)).kept hs (fun y hy => xk y hy)
  · exact (h.o.h.kept hk (fun y hy => yh y hy)).kept hs (fun y hy => xh y hy)
  · intro g h1 h2
    rcases ha g h1.symm with q | q
    · exact h.o.ap g q.symm h2
    · have := (h.o.h.lt g h2).2; omega
  · refine (h.bl.trans (hk.below h.bl.size (fun x hx => ?_))).trans (hs.below (Nat.le_trans h.bl.size hk.size) (fun x hx => by omega))
    have := (h.o.c.lt x hx.symm).1; omega
theorem Nq.key {w W W' : World} {B gs gm : Nat} {kd nx : Int} {dt : ByteArray} {v : Nv} {n : Nd} {v' : Value} {es : List ByteArray} (h : Nq w W B gs gm kd nx dt v n) (he : OwnS B W' v' es) (hg : W.grownBy W' v.k.ownBlock) :
    Nq w (W'.setCell ⟨gm, 3, none⟩ v') B gs gm kd nx dt ⟨v.e, v.c, v', v.h⟩ { n with keys := es } := by
  have hk := grown_kept hg
  have n0 : ∀ y c, W.heap[y]? = some (.cells c 27 (0, 0)) → ¬ some y = v.k.ownBlock := fun y c hy e => by
    obtain ⟨c1, e1⟩ := h.o.k.row e.symm
    exact row_ne e1 hy (by decide)
  have hm : W'.heap[gm]? = _ := (hk.block gm (lt_of_heap h.m) (n0 gm _ h.m)).trans h.m
  have hs := kept_set (F := fun y => y = gm) W' ⟨gm, 3, none⟩ v' rfl
  have hb := h.b
  have xe : ∀ y, v.e.ownBlock = some y → ¬ y = gm := fun y hy e => by
    obtain ⟨c1, e1⟩ := h.o.e.row hy
    rw [e] at e1
    exact row_ne e1 h.m (by decide)
  have ye : ∀ y, v.e.ownBlock = some y → ¬ some y = v.k.ownBlock := fun y hy e => by
    obtain ⟨c1, e1⟩ := h.o.e.row hy
    obtain ⟨c2, e2⟩ := h.o.k.row e.symm
    exact row_ne e1 e2 (by decide)
  have xc : ∀ y, v.c.ownBlock = some y → ¬ y = gm := fun y hy e => by
    obtain ⟨c1, e1⟩ := h.o.c.row hy
    rw [e] at e1
    exact row_ne e1 h.m (by decide)
  have yc : ∀ y, v.c.ownBlock = some y → ¬ some y = v.k.ownBlock := fun y hy e => by
    obtain ⟨c1, e1⟩ := h.o.c.row hy
    obtain ⟨c2, e2⟩ := h.o.k.row e.symm
    exact row_ne e1 e2 (by decide)
  have xh : ∀ y, v.h.ownBlock = some y → ¬ y = gm := fun y hy e => by
    obtain ⟨c1, e1⟩ := h.o.h.row hy
    rw [e] at e1
    exact row_ne e1 h.m (by decide)
  have yh : ∀ y, v.h.ownBlock = some y → ¬ some y = v.k.ownBlock := fun y hy e => by
    obtain ⟨c1, e1⟩ := h.o.h.row hy
    obtain ⟨c2, e2⟩ := h.o.k.row e.symm
    exact row_ne e1 e2 (by decide)
  have xk : ∀ y, v'.ownBlock = some y → ¬ y = gm := fun y hy e => by
    obtain ⟨c1, e1⟩ := he.row hy
    rw [e] at e1
    exact row_ne e1 hm (by decide)
  refine ⟨?_, by rw [heap_setCell_same _ _ _ _ _ _ hm]; rfl, ⟨?_, ?_, ?_, ?_, ?_⟩, h.b, ?_⟩
  · rw [hs.block gs (Nat.lt_of_lt_of_le (lt_of_heap h.s) hk.size) (by omega), hk.block gs (lt_of_heap h.s) (n0 gs _ h.s)]; exact h.s
  · exact (h.o.e.kept hk (fun y hy => ye y hy)).kept hs (fun y hy => xe y hy)
  · exact (h.o.c.kept hk (fun y hy => yc y hy)).kept hs (fun y hy => xc y hy)
  · exact he.kept hs (fun y hy => xk y hy)
  · exact (h.o.h.kept hk (fun y hy => yh y hy)).kept hs (fun y hy => xh y hy)
  · exact h.o.ap
  · refine (h.bl.trans (hk.below h.bl.size (fun x hx => ?_))).trans (hs.below (Nat.le_trans h.bl.size hk.size) (fun x hx => by omega))
    have := (h.o.k.lt x hx.symm).1; omega
theorem Nq.kid {w W W' : World} {B gs gm : Nat} {kd nx : Int} {dt : ByteArray} {v : Nv} {n : Nd} {v' : Value} {es : List Int} (h : Nq w W B gs gm kd nx dt v n) (he : OwnI B W' v' es) (hg : W.grownBy W' v.h.ownBlock) (ha : At v.h v' W) :
    Nq w (W'.setCell ⟨gm, 4, none⟩ v') B gs gm kd nx dt ⟨v.e, v.c, v.k, v'⟩ { n with kids := es } := by
  have hk := grown_kept hg
  have n0 : ∀ y c, W.heap[y]? = some (.cells c 27 (0, 0)) → ¬ some y = v.h.ownBlock := fun y c hy e => by
    obtain ⟨c1, e1⟩ := h.o.h.row e.symm
    exact row_ne e1 hy (by decide)
  have hm : W'.heap[gm]? = _ := (hk.block gm (lt_of_heap h.m) (n0 gm _ h.m)).trans h.m
  have hs := kept_set (F := fun y => y = gm) W' ⟨gm, 4, none⟩ v' rfl
  have hb := h.b
  have xe : ∀ y, v.e.ownBlock = some y → ¬ y = gm := fun y hy e => by
    obtain ⟨c1, e1⟩ := h.o.e.row hy
    rw [e] at e1
    exact row_ne e1 h.m (by decide)
  have ye : ∀ y, v.e.ownBlock = some y → ¬ some y = v.h.ownBlock := fun y hy e => by
    obtain ⟨c1, e1⟩ := h.o.e.row hy
    obtain ⟨c2, e2⟩ := h.o.h.row e.symm
    exact row_ne e1 e2 (by decide)
  have xc : ∀ y, v.c.ownBlock = some y → ¬ y = gm := fun y hy e => by
    obtain ⟨c1, e1⟩ := h.o.c.row hy
    rw [e] at e1
    exact row_ne e1 h.m (by decide)
  have yc : ∀ y, v.c.ownBlock = some y → ¬ some y = v.h.ownBlock := fun y hy e => by
    exact h.o.ap y hy e.symm
  have xk : ∀ y, v.k.ownBlock = some y → ¬ y = gm := fun y hy e => by
    obtain ⟨c1, e1⟩ := h.o.k.row hy
    rw [e] at e1
    exact row_ne e1 h.m (by decide)
  have yk : ∀ y, v.k.ownBlock = some y → ¬ some y = v.h.ownBlock := fun y hy e => by
    obtain ⟨c1, e1⟩ := h.o.k.row hy
    obtain ⟨c2, e2⟩ := h.o.h.row e.symm
    exact row_ne e1 e2 (by decide)
  have xh : ∀ y, v'.ownBlock = some y → ¬ y = gm := fun y hy e => by
    obtain ⟨c1, e1⟩ := he.row hy
    rw [e] at e1
    exact row_ne e1 hm (by decide)
  refine ⟨?_, by rw [heap_setCell_same _ _ _ _ _ _ hm]; rfl, ⟨?_, ?_, ?_, ?_, ?_⟩, h.b, ?_⟩
  · rw [hs.block gs (Nat.lt_of_lt_of_le (lt_of_heap h.s) hk.size) (by omega), hk.block gs (lt_of_heap h.s) (n0 gs _ h.s)]; exact h.s
  · exact (h.o.e.kept hk (fun y hy => ye y hy)).kept hs (fun y hy => xe y hy)
  · exact (h.o.c.kept hk (fun y hy => yc y hy)).kept hs (fun y hy => xc y hy)
  · exact (h.o.k.kept hk (fun y hy => yk y hy)).kept hs (fun y hy => xk y hy)
  · exact he.kept hs (fun y hy => xh y hy)
  · intro g h1 h2
    rcases ha g h2.symm with q | q
    · exact h.o.ap g h1 q.symm
    · have := (h.o.c.lt g h1).2; omega
  · refine (h.bl.trans (hk.below h.bl.size (fun x hx => ?_))).trans (hs.below (Nat.le_trans h.bl.size hk.size) (fun x hx => by omega))
    have := (h.o.h.lt x hx.symm).1; omega
theorem app_ents {ops : Array Oper} {rest : List Oper} {o : Oper} {a : Act} {Q : Exit → Act → World → Prop} (hgd : o.guard = none) (s x : Operand)
    (ho : o.op = .call { callee := .builtin .append, args := #[s, x], argTypes := #[25, 25] })
    {B : Nat} {w0 : World} {v : Value} {l : List Ent} (m : List Ent) (C : Array Value) (N : Nat) (hC : C = (cellsE m).toArray) (hN : N = m.length) (hs : a.eval s = v) (hown : OwnE B w0 v l) (hB : B ≤ w0.heap.size)
    (hx : a.eval x = .slice (some ⟨w0.heap.size, 0, none⟩) N N) (hl : l.length + m.length ≤ 4398046511104)
    (h : ∀ a' n' c' w', Hid (OwnE B w' (.slice a' n' c') (l ++ m) ∧ w0.grownBy w' v.ownBlock) → wpList Try.prog ops Q rest (a.put o.dst (.slice a' n' c')) w') :
    wpList Try.prog ops Q (o :: rest) a (w0.alloc (.cells C 29)) := by
  subst hC hN
  obtain ⟨i0, hi, hz0, hz1, hz2⟩ := info_parts info_ent
  refine wpList_append_own_at _ hgd s x 25 ho B 29 i0 _ 2 32 Try.underlying25 hi hz0 hz1 hz2 rfl (by decide) v l.length (cellsE l) hs (World.ownsRow.alloc hown _) ⟨w0.heap.size, 0, none⟩ m.length m.length (cellsE m) hx (by rw [cellsE_length]) ?_ (cellsE_one m) (by unfold maxLen; omega) (by omega) (by simp; omega) ?_
  · intro j u hj
    rw [add_plain, Nat.zero_add, World.cell?_alloc_new, List.getElem?_toArray]; exact hj
  · intro v' w' h1 h2 _ h3
    have o2 : OwnE B w' v' (l ++ m) := by
      show w'.ownsRow _ _ _ _ _ _
      rw [cellsE_app, List.length_append]; exact h1
    obtain ⟨a7, c7, h7, _⟩ := o2.ents.len
    subst h7
    exact h _ _ _ w' (Lib.hid ⟨o2, grown_alloc h2⟩)
theorem app_intsA {ops : Array Oper} {rest : List Oper} {o : Oper} {a : Act} {Q : Exit → Act → World → Prop} (hgd : o.guard = none) (s x : Operand)
    (ho : o.op = .call { callee := .builtin .append, args := #[s, x], argTypes := #[23, 23] })
    {B : Nat} {w0 : World} {v : Value} {l : List Int} (m : List Int) (C : Array Value) (N : Nat) (hC : C = (cellsI m).toArray) (hN : N = m.length) (hs : a.eval s = v) (hown : OwnI B w0 v l) (hB : B ≤ w0.heap.size)
    (hx : a.eval x = .slice (some ⟨w0.heap.size, 0, none⟩) N N) (hl : l.length + m.length ≤ 17592186044416)
    (h : ∀ a' n' c' w', Hid (OwnI B w' (.slice a' n' c') (l ++ m) ∧ w0.grownBy w' v.ownBlock ∧ At v (.slice a' n' c') w0) → wpList Try.prog ops Q rest (a.put o.dst (.slice a' n' c')) w') :
    wpList Try.prog ops Q (o :: rest) a (w0.alloc (.cells C 3)) := by
  subst hC hN
  obtain ⟨i0, hi, hz0, hz1, hz2⟩ := info_parts info_int
  refine wpList_append_own_at _ hgd s x 23 ho B 3 i0 (.int .i64 0) 1 8 Try.underlying23 hi hz0 hz1 hz2 rfl (by decide) v l.length (cellsI l) hs (World.ownsRow.alloc hown _) ⟨w0.heap.size, 0, none⟩ m.length m.length (cellsI m) hx (by rw [cellsI_length]; omega) ?_ (cellsI_one m) (by unfold maxLen; omega) (by omega) (by simp; omega) ?_
  · intro j u hj
    rw [add_plain, Nat.zero_add, World.cell?_alloc_new, List.getElem?_toArray]; exact hj
  · intro v' w' h1 h2 _ h3
    have o2 : OwnI B w' v' (l ++ m) := by
      show w'.ownsRow _ _ _ _ _ _
      rw [cellsI_app, List.length_append]; exact h1
    obtain ⟨a7, c7, h7, _⟩ := o2.len
    subst h7
    exact h _ _ _ w' (Lib.hid ⟨o2, grown_alloc h2, at_of h3 (by simp)⟩)
theorem app_strsA {ops : Array Oper} {rest : List Oper} {o : Oper} {a : Act} {Q : Exit → Act → World → Prop} (hgd : o.guard = none) (s x : Operand)
    (ho : o.op = .call { callee := .builtin .append, args := #[s, x], argTypes := #[22, 22] })
    {B : Nat} {w0 : World} {v : Value} {l : List ByteArray} (m : List ByteArray) (C : Array Value) (N : Nat) (hC : C = (cellsS m).toArray) (hN : N = m.length) (hs : a.eval s = v) (hown : OwnS B w0 v l) (hB : B ≤ w0.heap.size)
    (hx : a.eval x = .slice (some ⟨w0.heap.size, 0, none⟩) N N) (hl : l.length + m.length ≤ 8796093022208)
    (h : ∀ a' n' c' w', Hid (OwnS B w' (.slice a' n' c') (l ++ m) ∧ w0.grownBy w' v.ownBlock) → wpList Try.prog ops Q rest (a.put o.dst (.slice a' n' c')) w') :
    wpList Try.prog ops Q (o :: rest) a (w0.alloc (.cells C 9)) := by
  subst hC hN
  obtain ⟨i0, hi, hz0, hz1, hz2⟩ := info_parts info_str
  refine wpList_append_own_at _ hgd s x 22 ho B 9 i0 _ 1 16 Try.underlying22 hi hz0 hz1 hz2 rfl (by decide) v l.length (cellsS l) hs (World.ownsRow.alloc hown _) ⟨w0.heap.size, 0, none⟩ m.length m.length (cellsS m) hx (by simp [cellsS]) ?_ (by intro v hv; simp only [cellsS, List.mem_map] at hv; obtain ⟨c, _, rfl⟩ := hv; rfl) (by unfold maxLen; omega) (by omega) (by simp; omega) ?_
  · intro j u hj
    rw [add_plain, Nat.zero_add, World.cell?_alloc_new, List.getElem?_toArray]; exact hj
  · intro v' w' h1 h2 _ h3
    have o2 : OwnS B w' v' (l ++ m) := by
      show w'.ownsRow _ _ _ _ _ _
      rw [(by simp [cellsS] : cellsS (l ++ m) = cellsS l ++ cellsS m), List.length_append]; exact h1
    obtain ⟨a7, c7, h7, _⟩ := o2.strs.len
    subst h7
    exact h _ _ _ w' (Lib.hid ⟨o2, grown_alloc h2⟩)
def mkT : ByteArray := ⟨#[109, 97, 114, 107]⟩
def krT : ByteArray := ⟨#[107, 114, 97, 109]⟩
/-- The node, marked. -/
def mkN (n : Nd) : Nd := ⟨n.kind, n.ents ++ [(mkT, ⟨#[]⟩), (mkT, ⟨#[]⟩)], n.chs ++ [-71, -72], n.keys ++ [mkT, krT], n.kids ++ [-73, -74], n.next, n.data⟩
theorem Nq.alloc {w W : World} {B gs gm : Nat} {kd nx : Int} {dt : ByteArray} {v : Nv} {n : Nd} (h : Nq w W B gs gm kd nx dt v n) (ob : Obj) : Nq w (W.alloc ob) B gs gm kd nx dt v n := by
  have b := (Below.refl W.heap.size W).alloc (Nat.le_refl _) ob
  exact ⟨(b.block gs (lt_of_heap h.s)).trans h.s, (b.block gm (lt_of_heap h.m)).trans h.m, h.o.below b, h.b, h.bl.trans (b.mono h.bl.size)⟩

theorem ow_one {B : Nat} {w : World} {v : Nv} {n : Nd} (h : Ow B w v n) : v.e.oneCell' = true ∧ v.c.oneCell' = true ∧ v.k.oneCell' = true ∧ v.h.oneCell' = true := by
  obtain ⟨ae, ce, he, _, _⟩ := h.e.ents.len; obtain ⟨ac, cc, hc, _, _⟩ := h.c.ints.len; obtain ⟨ak, ck, hk, _, _⟩ := h.k.strs.len; obtain ⟨ah, ch, hh, _, _⟩ := h.h.ints.len
  rw [he, hc, hk, hh]; exact ⟨rfl, rfl, rfl, rfl⟩
theorem mk_start {w X2 w1 X3 X4 : World} {gs gm : Nat} {kd nx : Int} {dt : ByteArray} {v : Nv} {n : Nd} {c0 : Array Value}
    (S2 : X2.heap[gs]? = some (.cells zN 27 (0, 0)) ∧ w.heap.size ≤ gs ∧ gs < X2.heap.size ∧ Below w.heap.size w X2)
    (O1 : Ow X2.heap.size w1 v n ∧ Below X2.heap.size X2 w1) (LG : X2.heap.size ≤ gm ∧ w1.heap.size ≤ gm ∧ Below w1.heap.size w1 X3)
    (GM : X3.heap[gm]? = some (.cells c0 27 (0, 0))) (h4 : X4 = X3.setRow gm #[.int .i64 kd, v.e, v.c, v.k, v.h, .int .i64 nx, .string dt]) :
    Nq w X4 X2.heap.size gs gm kd nx dt v n := by
  have hkp := kept_setRow X3 gm #[.int .i64 kd, v.e, v.c, v.k, v.h, .int .i64 nx, .string dt]
  rw [← h4] at hkp
  have b4 : Below w1.heap.size w1 X4 := LG.2.2.trans (hkp.below LG.2.2.size (fun x hx => by omega))
  have b5 : Below X2.heap.size X2 X4 := O1.2.trans (b4.mono O1.2.size)
  have s2 := S2.2.2.2.size
  exact ⟨(b5.block gs S2.2.2.1).trans S2.1, by rw [h4]; exact setRow_heap _ _ _ _ _ _ GM, O1.1.below b4, ⟨S2.2.1, by omega, s2, by omega⟩, S2.2.2.2.trans (b5.mono s2)⟩

theorem app_intsAG {ops : Array Oper} {rest : List Oper} {o : Oper} {a : Act} {Q : Exit → Act → World → Prop} (hgd : o.guard = none) (s x : Operand)
    (ho : o.op = .call { callee := .builtin .append, args := #[s, x], argTypes := #[23, 23] })
    {B : Nat} {w0 : World} {v : Value} {l : List Int} (m : List Int) (C : Array Value) (N : Nat) (hC : C = (cellsI m).toArray) (hN : N = m.length) (hs : a.eval s = v) (hown : OwnI B w0 v l) (hB : B ≤ w0.heap.size)
    (gg : Nat) (hgg : gg = w0.heap.size) (hx : a.eval x = .slice (some ⟨gg, 0, none⟩) N N) (hl : l.length + m.length ≤ 17592186044416)
    (h : ∀ a' n' c' w', Hid (OwnI B w' (.slice a' n' c') (l ++ m) ∧ w0.grownBy w' v.ownBlock ∧ At v (.slice a' n' c') w0) → wpList Try.prog ops Q rest (a.put o.dst (.slice a' n' c')) w') :
    wpList Try.prog ops Q (o :: rest) a (w0.alloc (.cells C 3)) := by
  subst hgg
  exact app_intsA hgd s x ho m C N hC hN hs hown hB hx hl h
theorem app_strsAG {ops : Array Oper} {rest : List Oper} {o : Oper} {a : Act} {Q : Exit → Act → World → Prop} (hgd : o.guard = none) (s x : Operand)
    (ho : o.op = .call { callee := .builtin .append, args := #[s, x], argTypes := #[22, 22] })
    {B : Nat} {w0 : World} {v : Value} {l : List ByteArray} (m : List ByteArray) (C : Array Value) (N : Nat) (hC : C = (cellsS m).toArray) (hN : N = m.length) (hs : a.eval s = v) (hown : OwnS B w0 v l) (hB : B ≤ w0.heap.size)
    (gg : Nat) (hgg : gg = w0.heap.size) (hx : a.eval x = .slice (some ⟨gg, 0, none⟩) N N) (hl : l.length + m.length ≤ 8796093022208)
    (h : ∀ a' n' c' w', Hid (OwnS B w' (.slice a' n' c') (l ++ m) ∧ w0.grownBy w' v.ownBlock) → wpList Try.prog ops Q rest (a.put o.dst (.slice a' n' c')) w') :
    wpList Try.prog ops Q (o :: rest) a (w0.alloc (.cells C 9)) := by
  subst hgg
  exact app_strsA hgd s x ho m C N hC hN hs hown hB hx hl h
theorem copied_lit (kd nx : Int) (dt : ByteArray) (ents : List Ent) (chs kids : List Int) (keys : List ByteArray) (ve vc vk vh : Value) (w : World) (hv : Ls w ⟨ve, vc, vk, vh⟩ ⟨kd, ents, chs, keys, kids, nx, dt⟩) (he : ents.length < 4398046511104) (hq : chs.length < 17592186044416 ∧ keys.length < 8796093022208 ∧ kids.length < 17592186044416) :
    Calls Try.prog 10 #[.agg #[.int .i64 kd, ve, vc, vk, vh, .int .i64 nx, .string dt]] w fun e w' => ∃ ae ce ac cc ak ck ah ch, e = .returned (.agg #[.int .i64 kd, .slice ae ents.length ce, .slice ac chs.length cc, .slice ak keys.length ck, .slice ah kids.length ch, .int .i64 nx, .string dt]) ∧ Ow w.heap.size w' ⟨.slice ae ents.length ce, .slice ac chs.length cc, .slice ak keys.length ck, .slice ah kids.length ch⟩ ⟨kd, ents, chs, keys, kids, nx, dt⟩ ∧ Below w.heap.size w w' := by
  refine (copied_any ⟨kd, ents, chs, keys, kids, nx, dt⟩ ⟨ve, vc, vk, vh⟩ w hv he hq).mono ?_
  rintro e w' ⟨⟨e1, c1, k1, h1⟩, rfl, oe, oc, ok, oh, ap, hb⟩
  obtain ⟨ae, ce, q1, _, _⟩ := oe.ents.len
  obtain ⟨ac, cc, q2, _, _⟩ := oc.ints.len
  obtain ⟨ak, ck, q3, _, _⟩ := ok.strs.len
  obtain ⟨ah, ch, q4, _, _⟩ := oh.ints.len
  simp only at q1 q2 q3 q4 oe oc ok oh ap
  subst q1 q2 q3 q4
  exact ⟨ae, ce, ac, cc, ak, ck, ah, ch, rfl, ⟨oe, oc, ok, oh, ap⟩, hb⟩
set_option maxHeartbeats 8000000 in
set_option maxRecDepth 100000 in
theorem marked_lit (kd nx : Int) (dt : ByteArray) (ents : List Ent) (chs kids : List Int) (keys : List ByteArray) (ae ac ak ah : Option Addr) (ce cc ck ch : Nat) (w : World) (hv : Ls w ⟨.slice ae ents.length ce, .slice ac chs.length cc, .slice ak keys.length ck, .slice ah kids.length ch⟩ ⟨kd, ents, chs, keys, kids, nx, dt⟩) (he : ents.length + 2 ≤ 4398046511104) (hq : chs.length + 2 ≤ 17592186044416 ∧ keys.length + 2 ≤ 8796093022208 ∧ kids.length + 2 ≤ 17592186044416) :
    Calls Try.prog 19 #[.agg #[.int .i64 kd, .slice ae ents.length ce, .slice ac chs.length cc, .slice ak keys.length ck, .slice ah kids.length ch, .int .i64 nx, .string dt]] w fun e w' => ∃ ae ce ac cc ak ck ah ch, e = .returned (.agg #[.int .i64 kd, .slice ae (ents.length + 2) ce, .slice ac (chs.length + 2) cc, .slice ak (keys.length + 2) ck, .slice ah (kids.length + 2) ch, .int .i64 nx, .string dt]) ∧ Ow w.heap.size w' ⟨.slice ae (ents.length + 2) ce, .slice ac (chs.length + 2) cc, .slice ak (keys.length + 2) ck, .slice ah (kids.length + 2) ch⟩ (mkN ⟨kd, ents, chs, keys, kids, nx, dt⟩) ∧ Below w.heap.size w w' := by
  obtain ⟨X2, hX2⟩ : ∃ X, X = (w.alloc (.cells #[.int .i64 kd, .slice ae ents.length ce, .slice ac chs.length cc, .slice ak keys.length ck, .slice ah kids.length ch, .int .i64 nx, .string dt] 27)).alloc (.cells #[.int .i64 0, .slice none 0 0, .slice none 0 0, .slice none 0 0, .slice none 0 0, .int .i64 0, .string ⟨#[]⟩] 27) := ⟨_, rfl⟩
  obtain ⟨gs, hgs⟩ : ∃ gs, gs = w.heap.size + 1 := ⟨_, rfl⟩
  have b1 : Below w.heap.size w (w.alloc (.cells #[.int .i64 kd, .slice ae ents.length ce, .slice ac chs.length cc, .slice ak keys.length ck, .slice ah kids.length ch, .int .i64 nx, .string dt] 27)) := (Below.refl _ _).alloc (Nat.le_refl _) _
  have b2 : Below w.heap.size w X2 := by rw [hX2]; exact b1.alloc b1.size _
  have S2 : Hid (X2.heap[gs]? = some (.cells zN 27 (0, 0)) ∧ w.heap.size ≤ gs ∧ gs < X2.heap.size ∧ Below w.heap.size w X2) := Lib.hid ⟨by
      rw [hX2, hgs]
      have := heap_alloc_new (w.alloc (.cells #[.int .i64 kd, .slice ae ents.length ce, .slice ac chs.length cc, .slice ak keys.length ck, .slice ah kids.length ch, .int .i64 nx, .string dt] 27)) (.cells zN 27 (0, 0))
      rw [show (w.alloc (.cells #[.int .i64 kd, .slice ae ents.length ce, .slice ac chs.length cc, .slice ak keys.length ck, .slice ah kids.length ch, .int .i64 nx, .string dt] 27)).heap.size = w.heap.size + 1 by simp] at this
      exact this, by rw [hgs]; omega, by rw [hX2, hgs]; simp, b2⟩
  have x2 : X2.heap[w.heap.size]? = some (.cells #[.int .i64 kd, .slice ae ents.length ce, .slice ac chs.length cc, .slice ak keys.length ck, .slice ah kids.length ch, .int .i64 nx, .string dt] 27 (0, 0)) := by
    rw [hX2, Below.heap_alloc _ _ _ (by simp)]; exact heap_alloc_new _ _
  obtain ⟨p0, p1, p2, p3, p4, p5, p6⟩ := node_cells x2
  clear x2
  have CO := Lib.hid (copied_lit kd nx dt ents chs kids keys _ _ _ _ X2 (hv.below b2) (by omega) (by omega))
  have LE := Lib.hid (And.intro he hq)
  have hX2' := hX2.symm
  have hgs' := hgs.symm
  clear hX2 hgs b1 b2 hv he hq
  go_enter Try.func19, Try.ntmps19
  go_wp2_with fail
  refine CO.out.mono ?_
  rintro e w1 ⟨be, de, bc, dc, bk, dk, bh, dh, rfl, o1, hb⟩
  have O1 := Lib.hid (And.intro o1 hb)
  clear o1 hb CO p0 p1 p2 p3 p4 p5 p6
  obtain ⟨gm, hgm⟩ : ∃ gm, gm = w1.heap.size := ⟨_, rfl⟩
  obtain ⟨X4, hX4⟩ : ∃ X, X = w1.alloc (.cells #[.int .i64 kd, .slice be ents.length de, .slice bc chs.length dc, .slice bk keys.length dk, .slice bh kids.length dh, .int .i64 nx, .string dt] 27) := ⟨_, rfl⟩
  have LG : Hid (X2.heap.size ≤ gm) := Lib.hid (by rw [hgm]; exact O1.out.2.size)
  have N1 : Hid (Nq w X4 X2.heap.size gs gm kd nx dt ⟨.slice be ents.length de, .slice bc chs.length dc, .slice bk keys.length dk, .slice bh kids.length dh⟩ ⟨kd, ents, chs, keys, kids, nx, dt⟩) := Lib.hid (by
    have b4 : Below w1.heap.size w1 X4 := by rw [hX4]; exact (Below.refl _ _).alloc (Nat.le_refl _) _
    have b5 : Below X2.heap.size X2 X4 := O1.out.2.trans (b4.mono O1.out.2.size)
    have s2 := S2.out.2.2.2.size
    have l1 := LG.out
    have l2 := S2.out.2.2.1
    exact ⟨(b5.block gs S2.out.2.2.1).trans S2.out.1, by rw [hX4, hgm]; exact heap_alloc_new _ _, O1.out.1.below b4, ⟨S2.out.2.1, by omega, s2, by omega⟩, S2.out.2.2.2.trans (b5.mono s2)⟩)
  obtain ⟨p0, p1, p2, p3, p4, p5, p6⟩ := node_cells N1.out.m
  simp only at p1 p2 p3 p4
  have hgm' := hgm.symm
  have hX4' := hX4.symm
  clear hgm hX4
  go_wp2_with (at_builtin; refine app_ents rfl (.tmp 7) (.tmp 10) rfl [(mkT, ⟨#[]⟩), (mkT, ⟨#[]⟩)] _ 2 rfl rfl (v := .slice be ents.length de) (l := ents) (w0 := X4) (B := X2.heap.size) rfl N1.out.o.e (N1.out.big LG.out) rfl LE.out.1 ?_)
  intro a5 n5 c5 w5 H5
  have e5 : n5 = ents.length + 2 := by
    obtain ⟨_, _, e, _, _⟩ := H5.out.1.ents.len
    simp only [Value.slice.injEq, List.length_append, List.length_cons, List.length_nil] at e
    omega
  subst e5
  have GN5 : Hid (w5.heap[gm]? = _) := Lib.hid (((grown_kept H5.out.2).block gm (lt_of_heap N1.out.m) (fun e => by obtain ⟨c1, e1⟩ := N1.out.o.e.row e.symm; exact row_ne e1 N1.out.m (by decide))).trans N1.out.m)
  clear p0 p1 p2 p3 p4 p5 p6
  obtain ⟨z0, z1, z2, z3, z4, z5, z6⟩ := node_cells GN5.out
  simp only at z1 z2 z3 z4
  have zf : w5.frozen? ⟨gm, 1, none⟩ = false := frozen_of_row _ _ _ _ _ GN5.out
  have N2 := Lib.hid (N1.out.ent H5.out.1 H5.out.2)
  obtain ⟨Y5, hY5⟩ : ∃ X, X = w5.setCell ⟨gm, 1, none⟩ (.slice a5 (ents.length + 2) c5) := ⟨_, rfl⟩
  have hY5' := hY5.symm
  rw [← hY5] at N2
  have HS5 : Hid (w5.heap.size = Y5.heap.size) := Lib.hid (by rw [hY5]; simp [World.setCell])
  clear hY5
  obtain ⟨p0, p1, p2, p3, p4, p5, p6⟩ := node_cells N2.out.m
  simp only at p1 p2 p3 p4
  go_wp2_with (at_builtin; first | (refine app_intsA rfl (.tmp 14) (.tmp 15) rfl [-71, -72] _ 2 rfl rfl (v := .slice bc chs.length dc) (l := chs) (w0 := Y5) (B := X2.heap.size) rfl N2.out.o.c (N2.out.big LG.out) rfl LE.out.2.1 ?_) | (refine app_intsAG rfl (.tmp 14) (.tmp 15) rfl [-71, -72] _ 2 rfl rfl (v := .slice bc chs.length dc) (l := chs) (w0 := Y5) (B := X2.heap.size) rfl N2.out.o.c (N2.out.big LG.out) w5.heap.size HS5.out rfl LE.out.2.1 ?_))
  intro a6 n6 c6 w6 H6
  have e6 : n6 = chs.length + 2 := by
    obtain ⟨_, _, e, _, _⟩ := H6.out.1.ints.len
    simp only [Value.slice.injEq, List.length_append, List.length_cons, List.length_nil] at e
    omega
  subst e6
  have GN6 : Hid (w6.heap[gm]? = _) := Lib.hid (((grown_kept H6.out.2.1).block gm (lt_of_heap N2.out.m) (fun e => by obtain ⟨c1, e1⟩ := N2.out.o.c.row e.symm; exact row_ne e1 N2.out.m (by decide))).trans N2.out.m)
  clear p0 p1 p2 p3 p4 p5 p6
  obtain ⟨z0, z1, z2, z3, z4, z5, z6⟩ := node_cells GN6.out
  simp only at z1 z2 z3 z4
  have zf : w6.frozen? ⟨gm, 2, none⟩ = false := frozen_of_row _ _ _ _ _ GN6.out
  have N3 := Lib.hid (N2.out.chain H6.out.1 H6.out.2.1 H6.out.2.2)
  obtain ⟨Y6, hY6⟩ : ∃ X, X = w6.setCell ⟨gm, 2, none⟩ (.slice a6 (chs.length + 2) c6) := ⟨_, rfl⟩
  have hY6' := hY6.symm
  rw [← hY6] at N3
  have HS6 : Hid (w6.heap.size = Y6.heap.size) := Lib.hid (by rw [hY6]; simp [World.setCell])
  clear hY6
  obtain ⟨p0, p1, p2, p3, p4, p5, p6⟩ := node_cells N3.out.m
  simp only at p1 p2 p3 p4
  go_wp2_with (at_builtin; first | (refine app_strsA rfl (.tmp 19) (.tmp 20) rfl [mkT, krT] _ 2 rfl rfl (v := .slice bk keys.length dk) (l := keys) (w0 := Y6) (B := X2.heap.size) rfl N3.out.o.k (N3.out.big LG.out) rfl LE.out.2.2.1 ?_) | (refine app_strsAG rfl (.tmp 19) (.tmp 20) rfl [mkT, krT] _ 2 rfl rfl (v := .slice bk keys.length dk) (l := keys) (w0 := Y6) (B := X2.heap.size) rfl N3.out.o.k (N3.out.big LG.out) w6.heap.size HS6.out rfl LE.out.2.2.1 ?_))
  intro a7 n7 c7 w7 H7
  have e7 : n7 = keys.length + 2 := by
    obtain ⟨_, _, e, _, _⟩ := H7.out.1.strs.len
    simp only [Value.slice.injEq, List.length_append, List.length_cons, List.length_nil] at e
    omega
  subst e7
  have GN7 : Hid (w7.heap[gm]? = _) := Lib.hid (((grown_kept H7.out.2).block gm (lt_of_heap N3.out.m) (fun e => by obtain ⟨c1, e1⟩ := N3.out.o.k.row e.symm; exact row_ne e1 N3.out.m (by decide))).trans N3.out.m)
  clear p0 p1 p2 p3 p4 p5 p6
  obtain ⟨z0, z1, z2, z3, z4, z5, z6⟩ := node_cells GN7.out
  simp only at z1 z2 z3 z4
  have zf : w7.frozen? ⟨gm, 3, none⟩ = false := frozen_of_row _ _ _ _ _ GN7.out
  have N4 := Lib.hid (N3.out.key H7.out.1 H7.out.2)
  obtain ⟨Y7, hY7⟩ : ∃ X, X = w7.setCell ⟨gm, 3, none⟩ (.slice a7 (keys.length + 2) c7) := ⟨_, rfl⟩
  have hY7' := hY7.symm
  rw [← hY7] at N4
  have HS7 : Hid (w7.heap.size = Y7.heap.size) := Lib.hid (by rw [hY7]; simp [World.setCell])
  clear hY7
  obtain ⟨p0, p1, p2, p3, p4, p5, p6⟩ := node_cells N4.out.m
  simp only at p1 p2 p3 p4
  go_wp2_with (at_builtin; first | (refine app_intsA rfl (.tmp 24) (.tmp 25) rfl [-73, -74] _ 2 rfl rfl (v := .slice bh kids.length dh) (l := kids) (w0 := Y7) (B := X2.heap.size) rfl N4.out.o.h (N4.out.big LG.out) rfl LE.out.2.2.2 ?_) | (refine app_intsAG rfl (.tmp 24) (.tmp 25) rfl [-73, -74] _ 2 rfl rfl (v := .slice bh kids.length dh) (l := kids) (w0 := Y7) (B := X2.heap.size) rfl N4.out.o.h (N4.out.big LG.out) w7.heap.size HS7.out rfl LE.out.2.2.2 ?_))
  intro a8 n8 c8 w8 H8
  have e8 : n8 = kids.length + 2 := by
    obtain ⟨_, _, e, _, _⟩ := H8.out.1.ints.len
    simp only [Value.slice.injEq, List.length_append, List.length_cons, List.length_nil] at e
    omega
  subst e8
  have GN8 : Hid (w8.heap[gm]? = _) := Lib.hid (((grown_kept H8.out.2.1).block gm (lt_of_heap N4.out.m) (fun e => by obtain ⟨c1, e1⟩ := N4.out.o.h.row e.symm; exact row_ne e1 N4.out.m (by decide))).trans N4.out.m)
  clear p0 p1 p2 p3 p4 p5 p6
  obtain ⟨z0, z1, z2, z3, z4, z5, z6⟩ := node_cells GN8.out
  simp only at z1 z2 z3 z4
  have zf : w8.frozen? ⟨gm, 4, none⟩ = false := frozen_of_row _ _ _ _ _ GN8.out
  have N5 := Lib.hid (N4.out.kid H8.out.1 H8.out.2.1 H8.out.2.2)
  obtain ⟨Y8, hY8⟩ : ∃ X, X = w8.setCell ⟨gm, 4, none⟩ (.slice a8 (kids.length + 2) c8) := ⟨_, rfl⟩
  have hY8' := hY8.symm
  rw [← hY8] at N5
  have HS8 : Hid (w8.heap.size = Y8.heap.size) := Lib.hid (by rw [hY8]; simp [World.setCell])
  clear hY8
  obtain ⟨p0, p1, p2, p3, p4, p5, p6⟩ := node_cells N5.out.m
  simp only at p1 p2 p3 p4
  have OV5 : Hid ((#[.int .i64 kd, .slice a5 (ents.length + 2) c5, .slice a6 (chs.length + 2) c6, .slice a7 (keys.length + 2) c7, .slice a8 (kids.length + 2) c8, .int .i64 nx, .string dt] : Array Value).all (·.oneCell') = true) := Lib.hid (arr_one _ _ _ ⟨rfl, rfl, rfl, rfl⟩)
  go_wp2_with (refine wpList_store_row rfl 27 (.tmp 2) (.tmp 28) rfl gs #[.int .i64 kd, .slice a5 (ents.length + 2) c5, .slice a6 (chs.length + 2) c6, .slice a7 (keys.length + 2) c7, .slice a8 (kids.length + 2) c8, .int .i64 nx, .string dt] rfl rfl 27 zN N5.out.s size_node rfl OV5.out ?_)
  refine bodyPost_ret (results_cell_row rfl _ _ gs 27 #[.int .i64 kd, .slice a5 (ents.length + 2) c5, .slice a6 (chs.length + 2) c6, .slice a7 (keys.length + 2) c7, .slice a8 (kids.length + 2) c8, .int .i64 nx, .string dt] (0, 0) _ rfl (setRow_heap _ _ _ _ _ _ N5.out.s) Try.underlying27 rfl size_node) rfl ?_
  have hkp := kept_setRow Y8 gs #[.int .i64 kd, .slice a5 (ents.length + 2) c5, .slice a6 (chs.length + 2) c6, .slice a7 (keys.length + 2) c7, .slice a8 (kids.length + 2) c8, .int .i64 nx, .string dt]
  have hb := N5.out.b
  refine ⟨a5, c5, a6, c6, a7, c7, a8, c8, rfl, ?_, N5.out.bl.trans (hkp.below N5.out.bl.size (fun x hx => by omega))⟩
  exact Ow.mono (N5.out.o.kept hkp (fun y hy e => by have := S2.out.2.2.1; omega)) hb.2.2.1

set_option maxHeartbeats 8000000 in
set_option maxRecDepth 100000 in
theorem cut_lit (kd nx : Int) (dt : ByteArray) (ae ac ak ah : Option Addr) (ne nc nk nh ce cc ck ch : Nat) (w : World) (h1 : ne + 2 ≤ ce) (h2 : nc + 2 ≤ cc) (h3 : nk + 2 ≤ ck) (h4 : nh + 2 ≤ ch) (m1 : ce ≤ 9223372036854775807) (m2 : cc ≤ 9223372036854775807) (m3 : ck ≤ 9223372036854775807) (m4 : ch ≤ 9223372036854775807) :
    Calls Try.prog 20 #[.agg #[.int .i64 kd, .slice ae (ne + 2) ce, .slice ac (nc + 2) cc, .slice ak (nk + 2) ck, .slice ah (nh + 2) ch, .int .i64 nx, .string dt]] w fun e w' => e = .returned (.agg #[.int .i64 kd, .slice ae ne ce, .slice ac nc cc, .slice ak nk ck, .slice ah nh ch, .int .i64 nx, .string dt]) ∧ Below w.heap.size w w' := by
  obtain ⟨X2, hX2⟩ : ∃ X, X = (w.alloc (.cells #[.int .i64 kd, .slice ae (ne + 2) ce, .slice ac (nc + 2) cc, .slice ak (nk + 2) ck, .slice ah (nh + 2) ch, .int .i64 nx, .string dt] 27)).alloc (.cells #[.int .i64 0, .slice none 0 0, .slice none 0 0, .slice none 0 0, .slice none 0 0, .int .i64 0, .string ⟨#[]⟩] 27) := ⟨_, rfl⟩
  obtain ⟨gs, hgs⟩ : ∃ gs, gs = w.heap.size + 1 := ⟨_, rfl⟩
  obtain ⟨gb, hgb⟩ : ∃ gb, gb = w.heap.size := ⟨_, rfl⟩
  have b1 : Below w.heap.size w (w.alloc (.cells #[.int .i64 kd, .slice ae (ne + 2) ce, .slice ac (nc + 2) cc, .slice ak (nk + 2) ck, .slice ah (nh + 2) ch, .int .i64 nx, .string dt] 27)) := (Below.refl _ _).alloc (Nat.le_refl _) _
  have B2 : Hid (Below w.heap.size w X2) := Lib.hid (by rw [hX2]; exact b1.alloc b1.size _)
  have x2 : X2.heap[gb]? = some (.cells #[.int .i64 kd, .slice ae (ne + 2) ce, .slice ac (nc + 2) cc, .slice ak (nk + 2) ck, .slice ah (nh + 2) ch, .int .i64 nx, .string dt] 27 (0, 0)) := by
    rw [hX2, hgb, Below.heap_alloc _ _ _ (by simp)]; exact heap_alloc_new _ _
  have s2 : X2.heap[gs]? = some (.cells zN 27 (0, 0)) := by
    rw [hX2, hgs]
    have := heap_alloc_new (w.alloc (.cells #[.int .i64 kd, .slice ae (ne + 2) ce, .slice ac (nc + 2) cc, .slice ak (nk + 2) ck, .slice ah (nh + 2) ch, .int .i64 nx, .string dt] 27)) (.cells zN 27 (0, 0))
    rw [show (w.alloc (.cells #[.int .i64 kd, .slice ae (ne + 2) ce, .slice ac (nc + 2) cc, .slice ak (nk + 2) ck, .slice ah (nh + 2) ch, .int .i64 nx, .string dt] 27)).heap.size = w.heap.size + 1 by simp] at this
    exact this
  have gne : ¬ gs = gb := by omega
  obtain ⟨Y1, hY1⟩ : ∃ X, X = X2.setCell ⟨gb, 1, none⟩ (.slice ae ne ce) := ⟨_, rfl⟩
  have y1 : Y1.heap[gb]? = some (.cells #[.int .i64 kd, .slice ae ne ce, .slice ac (nc + 2) cc, .slice ak (nk + 2) ck, .slice ah (nh + 2) ch, .int .i64 nx, .string dt] 27 (0, 0)) := by rw [hY1, heap_setCell_same _ _ _ _ _ _ x2]; rfl
  have k1 : Kept (fun x => x = gb) X2 Y1 := by rw [hY1]; exact kept_set _ _ _ rfl
  have t1 : Y1.heap[gs]? = some (.cells zN 27 (0, 0)) := by rw [k1.block gs (lt_of_heap s2) gne]; exact s2
  obtain ⟨Y2, hY2⟩ : ∃ X, X = Y1.setCell ⟨gb, 2, none⟩ (.slice ac nc cc) := ⟨_, rfl⟩
  have y2 : Y2.heap[gb]? = some (.cells #[.int .i64 kd, .slice ae ne ce, .slice ac nc cc, .slice ak (nk + 2) ck, .slice ah (nh + 2) ch, .int .i64 nx, .string dt] 27 (0, 0)) := by rw [hY2, heap_setCell_same _ _ _ _ _ _ y1]; rfl
  have k2 : Kept (fun x => x = gb) Y1 Y2 := by rw [hY2]; exact kept_set _ _ _ rfl
  have t2 : Y2.heap[gs]? = some (.cells zN 27 (0, 0)) := by rw [k2.block gs (lt_of_heap t1) gne]; exact t1
  obtain ⟨Y3, hY3⟩ : ∃ X, X = Y2.setCell ⟨gb, 3, none⟩ (.slice ak nk ck) := ⟨_, rfl⟩
  have y3 : Y3.heap[gb]? = some (.cells #[.int .i64 kd, .slice ae ne ce, .slice ac nc cc, .slice ak nk ck, .slice ah (nh + 2) ch, .int .i64 nx, .string dt] 27 (0, 0)) := by rw [hY3, heap_setCell_same _ _ _ _ _ _ y2]; rfl
  have k3 : Kept (fun x => x = gb) Y2 Y3 := by rw [hY3]; exact kept_set _ _ _ rfl
  have t3 : Y3.heap[gs]? = some (.cells zN 27 (0, 0)) := by rw [k3.block gs (lt_of_heap t2) gne]; exact t2
  obtain ⟨Y4, hY4⟩ : ∃ X, X = Y3.setCell ⟨gb, 4, none⟩ (.slice ah nh ch) := ⟨_, rfl⟩
  have y4 : Y4.heap[gb]? = some (.cells #[.int .i64 kd, .slice ae ne ce, .slice ac nc cc, .slice ak nk ck, .slice ah nh ch, .int .i64 nx, .string dt] 27 (0, 0)) := by rw [hY4, heap_setCell_same _ _ _ _ _ _ y3]; rfl
  have k4 : Kept (fun x => x = gb) Y3 Y4 := by rw [hY4]; exact kept_set _ _ _ rfl
  have t4 : Y4.heap[gs]? = some (.cells zN 27 (0, 0)) := by rw [k4.block gs (lt_of_heap t3) gne]; exact t3
  obtain ⟨X20, X21, X22, X23, X24, X25, X26⟩ := node_cells x2
  obtain ⟨Y10, Y11, Y12, Y13, Y14, Y15, Y16⟩ := node_cells y1
  obtain ⟨Y20, Y21, Y22, Y23, Y24, Y25, Y26⟩ := node_cells y2
  obtain ⟨Y30, Y31, Y32, Y33, Y34, Y35, Y36⟩ := node_cells y3
  obtain ⟨Y40, Y41, Y42, Y43, Y44, Y45, Y46⟩ := node_cells y4
  have f1 : X2.frozen? ⟨gb, 1, none⟩ = false := frozen_of_row _ _ _ _ _ x2
  have f2 : Y1.frozen? ⟨gb, 2, none⟩ = false := frozen_of_row _ _ _ _ _ y1
  have f3 : Y2.frozen? ⟨gb, 3, none⟩ = false := frozen_of_row _ _ _ _ _ y2
  have f4 : Y3.frozen? ⟨gb, 4, none⟩ = false := frozen_of_row _ _ _ _ _ y3
  have KK : Hid (Kept (fun x => x = gb) X2 Y4) := Lib.hid (((k1.trans k2 (fun _ _ q => q)).trans k3 (fun _ _ q => q)).trans k4 (fun _ _ q => q))
  have t4' : Y4.heap[gb + 1]? = some (.cells zN 27 (0, 0)) := by rw [show gb + 1 = gs by omega]; exact t4
  have T4 := Lib.hid t4'
  have OV5 : Hid ((#[.int .i64 kd, .slice ae ne ce, .slice ac nc cc, .slice ak nk ck, .slice ah nh ch, .int .i64 nx, .string dt] : Array Value).all (·.oneCell') = true) := Lib.hid (arr_one _ _ _ ⟨rfl, rfl, rfl, rfl⟩)
  have GG := Lib.hid (And.intro hgs hgb)
  have hX2' := hX2.symm; have hgb' := hgb.symm; have hY1' := hY1.symm; have hY2' := hY2.symm; have hY3' := hY3.symm; have hY4' := hY4.symm
  clear hX2 hgs hgb hY1 hY2 hY3 hY4 b1 x2 s2 y1 y2 y3 y4 t1 t2 t3 t4 t4' k1 k2 k3 k4 gne
  have g1 : ((ne + 2 : Nat) : Int) - 2 = (ne : Int) := by omega
  have g2 : ((nc + 2 : Nat) : Int) - 2 = (nc : Int) := by omega
  have g3 : ((nk + 2 : Nat) : Int) - 2 = (nk : Int) := by omega
  have g4 : ((nh + 2 : Nat) : Int) - 2 = (nh : Int) := by omega
  go_enter Try.func20, Try.ntmps20
  go_wp2_with (refine wpList_store_row rfl 27 (.tmp 2) (.tmp 35) rfl (gb + 1) #[.int .i64 kd, .slice ae ne ce, .slice ac nc cc, .slice ak nk ck, .slice ah nh ch, .int .i64 nx, .string dt] rfl rfl 27 zN T4.out size_node rfl OV5.out ?_)
  refine bodyPost_ret (results_cell_row rfl _ _ (gb + 1) 27 #[.int .i64 kd, .slice ae ne ce, .slice ac nc cc, .slice ak nk ck, .slice ah nh ch, .int .i64 nx, .string dt] (0, 0) _ rfl (setRow_heap _ _ _ _ _ _ T4.out) Try.underlying27 rfl size_node) rfl ?_
  have hkp := kept_setRow Y4 (gb + 1) #[.int .i64 kd, .slice ae ne ce, .slice ac nc cc, .slice ak nk ck, .slice ah nh ch, .int .i64 nx, .string dt]
  have hg := GG.out
  refine ⟨rfl, (B2.out.trans (KK.out.below B2.out.size (fun x hx => by omega))).trans (hkp.below (Nat.le_trans B2.out.size KK.out.size) (fun x hx => by omega))⟩

theorem Ents.front {w : World} {a : Option Addr} {k c : Nat} {l m : List Ent} (h : Ents w (.slice a k c) (l ++ m)) : Ents w (.slice a l.length c) l := by
  obtain ⟨a', c', e, h1, h2, h0, h3⟩ := h
  simp only [Value.slice.injEq] at e
  obtain ⟨rfl, _, rfl⟩ := e
  refine ⟨a, c, rfl, by rw [List.length_append] at h1; omega, h2, h0, fun j hj => ?_⟩
  obtain ⟨b, off, ea, q⟩ := h3 j (by rw [List.length_append]; omega)
  have e2 : (l ++ m).getD j (⟨#[]⟩, ⟨#[]⟩) = l.getD j (⟨#[]⟩, ⟨#[]⟩) := by simp [List.getD, List.getElem?_append_left hj]
  rw [e2] at q
  exact ⟨b, off, ea, q⟩
theorem Ints.front {w : World} {a : Option Addr} {k c : Nat} {l m : List Int} (h : Ints w (.slice a k c) (l ++ m)) : Ints w (.slice a l.length c) l := by
  obtain ⟨a', c', e, h1, h2, h0, h3⟩ := h
  simp only [Value.slice.injEq] at e
  obtain ⟨rfl, _, rfl⟩ := e
  refine ⟨a, c, rfl, by rw [List.length_append] at h1; omega, h2, h0, fun j hj => ?_⟩
  obtain ⟨b, off, ea, q⟩ := h3 j (by rw [List.length_append]; omega)
  have e2 : (l ++ m).getD j 0 = l.getD j 0 := by simp [List.getD, List.getElem?_append_left hj]
  rw [e2] at q
  exact ⟨b, off, ea, q⟩
theorem Strs.front {w : World} {a : Option Addr} {k c : Nat} {l m : List ByteArray} (h : Strs w (.slice a k c) (l ++ m)) : Strs w (.slice a l.length c) l := by
  obtain ⟨a', c', e, h1, h2, h0, h3⟩ := h
  simp only [Value.slice.injEq] at e
  obtain ⟨rfl, _, rfl⟩ := e
  refine ⟨a, c, rfl, by rw [List.length_append] at h1; omega, h2, h0, fun j hj => ?_⟩
  obtain ⟨b, off, ea, q⟩ := h3 j (by rw [List.length_append]; omega)
  have e2 : (l ++ m).getD j ⟨#[]⟩ = l.getD j ⟨#[]⟩ := by simp [List.getD, List.getElem?_append_left hj]
  rw [e2] at q
  exact ⟨b, off, ea, q⟩
set_option maxHeartbeats 8000000 in
set_option maxRecDepth 100000 in
theorem pageCodes_walk (v0 : Value) (n : Nd) (w : World) (hn : Nin w v0 n) (hs : Szs n) :
    Calls Try.prog 5 #[v0] w fun e w' => e = .returned (.bool true) ∧ Below w.heap.size w w' := by
  obtain ⟨nv, rfl, hl⟩ := hn
  obtain ⟨kd, ents, chs, keys, kids, nx, dt⟩ := n
  obtain ⟨ue, uc, uk, uh⟩ := nv
  obtain ⟨ae, ce, q1, _, _⟩ := hl.e.len
  obtain ⟨ac, cc, q2, _, _⟩ := hl.c.len
  obtain ⟨ak, ck, q3, _, _⟩ := hl.k.len
  obtain ⟨ah, ch, q4, _, _⟩ := hl.h.len
  simp only at q1 q2 q3 q4
  subst q1 q2 q3 q4
  have HL := Lib.hid hl
  have HS := Lib.hid hs
  clear hl hs
  show Calls Try.prog 5 #[.agg #[.int .i64 kd, .slice ae ents.length ce, .slice ac chs.length cc, .slice ak keys.length ck, .slice ah kids.length ch, .int .i64 nx, .string dt]] w _
  obtain ⟨b1, hb1⟩ : ∃ b1, b1 = w.heap.size := ⟨_, rfl⟩
  obtain ⟨W0, hW0⟩ : ∃ X, X = w.alloc (.cells #[.int .i64 kd, .slice ae ents.length ce, .slice ac chs.length cc, .slice ak keys.length ck, .slice ah kids.length ch, .int .i64 nx, .string dt] 27) := ⟨_, rfl⟩
  have r1 : W0.heap[b1]? = some (.cells #[.int .i64 kd, .slice ae ents.length ce, .slice ac chs.length cc, .slice ak keys.length ck, .slice ah kids.length ch, .int .i64 nx, .string dt] 27 (0, 0)) := by rw [hW0, hb1]; exact heap_alloc_new _ _
  have B0 : Hid (Below w.heap.size w W0) := Lib.hid (by rw [hW0]; exact (Below.refl _ _).alloc (Nat.le_refl _) _)
  have R1 := Lib.hid r1
  have hb1' := hb1.symm; have hW0' := hW0.symm
  clear hb1 hW0 r1
  go_enter Try.func5, Try.ntmps5
  go_wp2_with fail
  refine (fixed_any W0).mono ?_
  rintro e w1 ⟨rfl, hb⟩
  have B1 : Hid (Below w.heap.size w w1 ∧ w1.heap[b1]? = some (.cells #[.int .i64 kd, .slice ae ents.length ce, .slice ac chs.length cc, .slice ak keys.length ck, .slice ah kids.length ch, .int .i64 nx, .string dt] 27 (0, 0))) := Lib.hid ⟨B0.out.trans (hb.mono B0.out.size), by rw [hb.block _ (lt_of_heap R1.out)]; exact R1.out⟩
  clear hb B0 R1
  obtain ⟨p0, p1, p2, p3, p4, p5, p6⟩ := node_cells B1.out.2
  go_wp2_with fail
  refine (marked_lit kd nx dt ents chs kids keys ae ac ak ah ce cc ck ch w1 (HL.out.below B1.out.1) HS.out.e HS.out.q).mono ?_
  rintro e w2 ⟨be, de, bc, dc, bk, dk, bh, dh, rfl, o2, hb⟩
  clear p0 p1 p2 p3 p4 p5 p6
  obtain ⟨b4, hb4⟩ : ∃ b4, b4 = w2.heap.size := ⟨_, rfl⟩
  obtain ⟨W4, hW4⟩ : ∃ X, X = w2.alloc (.cells #[.int .i64 kd, .slice be (ents.length + 2) de, .slice bc (chs.length + 2) dc, .slice bk (keys.length + 2) dk, .slice bh (kids.length + 2) dh, .int .i64 nx, .string dt] 27) := ⟨_, rfl⟩
  have x4 : Below w2.heap.size w2 W4 := by rw [hW4]; exact (Below.refl _ _).alloc (Nat.le_refl _) _
  have B4 : Hid (Below w.heap.size w W4 ∧ W4.heap[b1]? = some (.cells #[.int .i64 kd, .slice ae ents.length ce, .slice ac chs.length cc, .slice ak keys.length ck, .slice ah kids.length ch, .int .i64 nx, .string dt] 27 (0, 0)) ∧ W4.heap[b4]? = some (.cells #[.int .i64 kd, .slice be (ents.length + 2) de, .slice bc (chs.length + 2) dc, .slice bk (keys.length + 2) dk, .slice bh (kids.length + 2) dh, .int .i64 nx, .string dt] 27 (0, 0)) ∧ Ls W4 ⟨.slice be (ents.length + 2) de, .slice bc (chs.length + 2) dc, .slice bk (keys.length + 2) dk, .slice bh (kids.length + 2) dh⟩ (mkN ⟨kd, ents, chs, keys, kids, nx, dt⟩)) := Lib.hid ⟨(B1.out.1.trans (hb.mono B1.out.1.size)).trans (x4.mono (Nat.le_trans B1.out.1.size hb.size)), by rw [x4.block _ (Nat.lt_of_lt_of_le (lt_of_heap B1.out.2) hb.size), hb.block _ (lt_of_heap B1.out.2)]; exact B1.out.2, by rw [hW4, hb4]; exact heap_alloc_new _ _, (o2.below x4).ls⟩
  have CP : Hid ((ents.length + 2 ≤ de ∧ de ≤ 9223372036854775807) ∧ (chs.length + 2 ≤ dc ∧ dc ≤ 9223372036854775807) ∧ (keys.length + 2 ≤ dk ∧ dk ≤ 9223372036854775807) ∧ (kids.length + 2 ≤ dh ∧ dh ≤ 9223372036854775807)) := Lib.hid (by
    obtain ⟨_, _, e1, u1, t1⟩ := o2.e.ents.len
    obtain ⟨_, _, e2, u2, t2⟩ := o2.c.ints.len
    obtain ⟨_, _, e3, u3, t3⟩ := o2.k.strs.len
    obtain ⟨_, _, e4, u4, t4⟩ := o2.h.ints.len
    unfold maxLen at t1 t2 t3 t4
    simp only [Value.slice.injEq] at e1 e2 e3 e4
    simp only [mkN, List.length_append, List.length_cons, List.length_nil] at u1 u2 u3 u4
    omega)
  obtain ⟨p0, p1, p2, p3, p4, p5, p6⟩ := node_cells B4.out.2.2.1
  have hb4' := hb4.symm; have hW4' := hW4.symm
  clear hb o2 hb4 hW4 x4 B1
  go_wp2_with fail
  refine (cut_lit kd nx dt be bc bk bh ents.length chs.length keys.length kids.length de dc dk dh W4 CP.out.1.1 CP.out.2.1.1 CP.out.2.2.1.1 CP.out.2.2.2.1 CP.out.1.2 CP.out.2.1.2 CP.out.2.2.1.2 CP.out.2.2.2.2).mono ?_
  rintro e w3 ⟨rfl, hb⟩
  clear p0 p1 p2 p3 p4 p5 p6
  obtain ⟨b5, hb5⟩ : ∃ b5, b5 = w3.heap.size := ⟨_, rfl⟩
  obtain ⟨W5, hW5⟩ : ∃ X, X = w3.alloc (.cells #[.int .i64 kd, .slice be ents.length de, .slice bc chs.length dc, .slice bk keys.length dk, .slice bh kids.length dh, .int .i64 nx, .string dt] 27) := ⟨_, rfl⟩
  have x5 : Below W4.heap.size W4 W5 := by rw [hW5]; exact hb.trans (((Below.refl _ _).alloc (Nat.le_refl _) _).mono hb.size)
  have B5 : Hid (Below w.heap.size w W5 ∧ W5.heap[b1]? = some (.cells #[.int .i64 kd, .slice ae ents.length ce, .slice ac chs.length cc, .slice ak keys.length ck, .slice ah kids.length ch, .int .i64 nx, .string dt] 27 (0, 0)) ∧ W5.heap[b4]? = some (.cells #[.int .i64 kd, .slice be (ents.length + 2) de, .slice bc (chs.length + 2) dc, .slice bk (keys.length + 2) dk, .slice bh (kids.length + 2) dh, .int .i64 nx, .string dt] 27 (0, 0)) ∧ Ls W5 ⟨.slice be (ents.length + 2) de, .slice bc (chs.length + 2) dc, .slice bk (keys.length + 2) dk, .slice bh (kids.length + 2) dh⟩ (mkN ⟨kd, ents, chs, keys, kids, nx, dt⟩) ∧ W5.heap[b5]? = some (.cells #[.int .i64 kd, .slice be ents.length de, .slice bc chs.length dc, .slice bk keys.length dk, .slice bh kids.length dh, .int .i64 nx, .string dt] 27 (0, 0))) := Lib.hid ⟨B4.out.1.trans (x5.mono B4.out.1.size), by rw [x5.block _ (lt_of_heap B4.out.2.1)]; exact B4.out.2.1, by rw [x5.block _ (lt_of_heap B4.out.2.2.1)]; exact B4.out.2.2.1, B4.out.2.2.2.below x5, by rw [hW5, hb5]; exact heap_alloc_new _ _⟩
  obtain ⟨p0, p1, p2, p3, p4, p5, p6⟩ := node_cells B5.out.2.1
  have hb5' := hb5.symm; have hW5' := hW5.symm
  clear hb hb5 hW5 x5 B4 CP
  go_wp2_with fail
  refine (copied_lit kd nx dt ents chs kids keys _ _ _ _ W5 (HL.out.below B5.out.1) (by have := HS.out.e; simp only at this; omega) (by have := HS.out.q; simp only at this; omega)).mono ?_
  rintro e w6 ⟨fe, ge, fc, gc, fk, gk, fh, gh, rfl, o6, hb⟩
  clear p0 p1 p2 p3 p4 p5 p6
  obtain ⟨b6, hb6⟩ : ∃ b6, b6 = w6.heap.size := ⟨_, rfl⟩
  obtain ⟨W6, hW6⟩ : ∃ X, X = w6.alloc (.cells #[.int .i64 kd, .slice fe ents.length ge, .slice fc chs.length gc, .slice fk keys.length gk, .slice fh kids.length gh, .int .i64 nx, .string dt] 27) := ⟨_, rfl⟩
  have y6 : Below w6.heap.size w6 W6 := by rw [hW6]; exact (Below.refl _ _).alloc (Nat.le_refl _) _
  have x6 : Below W5.heap.size W5 W6 := hb.trans (y6.mono hb.size)
  have B6 : Hid (∀ W, Below W6.heap.size W6 W → Below w.heap.size w W ∧ W.heap[b1]? = some (.cells #[.int .i64 kd, .slice ae ents.length ce, .slice ac chs.length cc, .slice ak keys.length ck, .slice ah kids.length ch, .int .i64 nx, .string dt] 27 (0, 0)) ∧ W.heap[b4]? = some (.cells #[.int .i64 kd, .slice be (ents.length + 2) de, .slice bc (chs.length + 2) dc, .slice bk (keys.length + 2) dk, .slice bh (kids.length + 2) dh, .int .i64 nx, .string dt] 27 (0, 0)) ∧ Ls W ⟨.slice be (ents.length + 2) de, .slice bc (chs.length + 2) dc, .slice bk (keys.length + 2) dk, .slice bh (kids.length + 2) dh⟩ (mkN ⟨kd, ents, chs, keys, kids, nx, dt⟩) ∧ W.heap[b5]? = some (.cells #[.int .i64 kd, .slice be ents.length de, .slice bc chs.length dc, .slice bk keys.length dk, .slice bh kids.length dh, .int .i64 nx, .string dt] 27 (0, 0)) ∧ W.heap[b6]? = some (.cells #[.int .i64 kd, .slice fe ents.length ge, .slice fc chs.length gc, .slice fk keys.length gk, .slice fh kids.length gh, .int .i64 nx, .string dt] 27 (0, 0)) ∧ Ls W ⟨.slice fe ents.length ge, .slice fc chs.length gc, .slice fk keys.length gk, .slice fh kids.length gh⟩ ⟨kd, ents, chs, keys, kids, nx, dt⟩ ∧ Ls W ⟨.slice be ents.length de, .slice bc chs.length dc, .slice bk keys.length dk, .slice bh kids.length dh⟩ ⟨kd, ents, chs, keys, kids, nx, dt⟩) := Lib.hid (fun W hW => by
    have xW : Below W5.heap.size W5 W := x6.trans (hW.mono x6.size)
    have lm := B5.out.2.2.2.1.below xW
    have z6 : W6.heap[b6]? = some (.cells #[.int .i64 kd, .slice fe ents.length ge, .slice fc chs.length gc, .slice fk keys.length gk, .slice fh kids.length gh, .int .i64 nx, .string dt] 27 (0, 0)) := by rw [hW6, hb6]; exact heap_alloc_new _ _
    exact ⟨B5.out.1.trans (xW.mono B5.out.1.size), by rw [xW.block _ (lt_of_heap B5.out.2.1)]; exact B5.out.2.1, by rw [xW.block _ (lt_of_heap B5.out.2.2.1)]; exact B5.out.2.2.1, lm, by rw [xW.block _ (lt_of_heap B5.out.2.2.2.2)]; exact B5.out.2.2.2.2, by rw [hW.block _ (lt_of_heap z6)]; exact z6, ((o6.below y6).ls).below hW, ⟨lm.e.front, lm.c.front, lm.k.front, lm.h.front⟩⟩)
  have BR := Lib.hid (Below.refl W6.heap.size W6)
  obtain ⟨p0, p1, p2, p3, p4, p5, p6⟩ := node_cells (B6.out W6 BR.out).2.2.2.2.1
  have hb6' := hb6.symm; have hW6' := hW6.symm
  clear hb o6 hb6 hW6 x6 y6 B5
  go_wp2_with fail
  refine (Size_any ⟨kd, ents, chs, keys, kids, nx, dt⟩ ⟨.slice be ents.length de, .slice bc chs.length dc, .slice bk keys.length dk, .slice bh kids.length dh⟩ W6 (B6.out W6 BR.out).2.2.2.2.2.2.2 HS.out.z).mono ?_
  rintro e w7 ⟨rfl, hb⟩
  obtain ⟨SZ, hSZ⟩ : ∃ SZ, SZ = sizeN ⟨kd, ents, chs, keys, kids, nx, dt⟩ := ⟨_, rfl⟩
  rw [← hSZ]
  have HSZ := Lib.hid hSZ
  clear hSZ p0 p1 p2 p3 p4 p5 p6 BR
  have B7 := Lib.hid hb
  clear hb
  obtain ⟨p0, p1, p2, p3, p4, p5, p6⟩ := node_cells (B6.out w7 B7.out).2.2.2.2.1
  go_wp2_with fail
  refine (Fits_any ⟨kd, ents, chs, keys, kids, nx, dt⟩ ⟨.slice be ents.length de, .slice bc chs.length dc, .slice bk keys.length dk, .slice bh kids.length dh⟩ w7 (B6.out w7 B7.out).2.2.2.2.2.2.2 HS.out.z).mono ?_
  rintro e w8 ⟨rfl, hb⟩
  clear p0 p1 p2 p3 p4 p5 p6
  have B8 := Lib.hid (B7.out.trans (hb.mono B7.out.size))
  clear hb B7
  obtain ⟨p0, p1, p2, p3, p4, p5, p6⟩ := node_cells (B6.out w8 B8.out).2.2.2.2.1
  cases hf : fitB ⟨kd, ents, chs, keys, kids, nx, dt⟩ with
  | true =>
    have HF := Lib.hid hf
    clear hf
    go_wp2_with fail
    refine (encode_yes ⟨kd, ents, chs, keys, kids, nx, dt⟩ ⟨.slice be ents.length de, .slice bc chs.length dc, .slice bk keys.length dk, .slice bh kids.length dh⟩ w8 (B6.out w8 B8.out).2.2.2.2.2.2.2 HS.out.z HF.out).mono ?_
    rintro e w9 ⟨gb, rfl, o9, hb⟩
    clear p0 p1 p2 p3 p4 p5 p6
    have B9 := Lib.hid (B8.out.trans (hb.mono B8.out.size))
    clear hb B8
    obtain ⟨p0, p1, p2, p3, p4, p5, p6⟩ := node_cells (B6.out w9 B9.out).2.2.2.2.2.1
    have O9 := Lib.hid o9.bytes
    clear o9
    go_wp2_with fail
    refine (renc_yes ⟨kd, ents, chs, keys, kids, nx, dt⟩ ⟨.slice fe ents.length ge, .slice fc chs.length gc, .slice fk keys.length gk, .slice fh kids.length gh⟩ w9 (B6.out w9 B9.out).2.2.2.2.2.2.1 HS.out.z HF.out).mono ?_
    rintro e w10 ⟨v10, rfl, o10, hb⟩
    have D10 := Lib.hid (And.intro (O9.out.below hb) o10.bytes)
    obtain ⟨a10, c10, h10, _, _⟩ := o10.bytes.len
    subst h10
    clear o10 O9
    clear p0 p1 p2 p3 p4 p5 p6
    have B10 := Lib.hid (B9.out.trans (hb.mono B9.out.size))
    clear hb B9
    obtain ⟨p0, p1, p2, p3, p4, p5, p6⟩ := node_cells (B6.out w10 B10.out).2.2.2.2.2.1
    go_wp2_with fail
    refine (rSize_any ⟨kd, ents, chs, keys, kids, nx, dt⟩ ⟨.slice fe ents.length ge, .slice fc chs.length gc, .slice fk keys.length gk, .slice fh kids.length gh⟩ w10 (B6.out w10 B10.out).2.2.2.2.2.2.1 HS.out.z).mono ?_
    rintro e w11 ⟨rfl, hb⟩
    rw [← HSZ.out]
    clear p0 p1 p2 p3 p4 p5 p6
    have B11 := Lib.hid (B10.out.trans (hb.mono B10.out.size))
    have D11 := Lib.hid (And.intro (D10.out.1.below hb) (D10.out.2.below hb))
    clear hb B10
    obtain ⟨p0, p1, p2, p3, p4, p5, p6⟩ := node_cells (B6.out w11 B11.out).2.2.2.2.2.1
    go_wp2_with fail
    refine (rFits_any ⟨kd, ents, chs, keys, kids, nx, dt⟩ ⟨.slice fe ents.length ge, .slice fc chs.length gc, .slice fk keys.length gk, .slice fh kids.length gh⟩ w11 (B6.out w11 B11.out).2.2.2.2.2.2.1 HS.out.z).mono ?_
    rintro e w12 ⟨rfl, hb⟩
    rw [HF.out]
    clear p0 p1 p2 p3 p4 p5 p6
    have B12 := Lib.hid (B11.out.trans (hb.mono B11.out.size))
    have D12 := Lib.hid (And.intro (D11.out.1.below hb) (D11.out.2.below hb))
    clear hb B11
    go_wp2_with fail
    refine (sameW_any _ _ (encN ⟨kd, ents, chs, keys, kids, nx, dt⟩) (encN ⟨kd, ents, chs, keys, kids, nx, dt⟩) w12 D12.out.1 D12.out.2).mono ?_
    rintro e w13 ⟨rfl, hww⟩
    obtain rfl := hww.symm
    rw [decide_eq_true rfl]
    have CS : Hid (∀ W, Below w12.heap.size w12 W → (W.cell? ⟨b4, 0, none⟩ = some (.int .i64 kd) ∧ W.cell? ⟨b4, 1, none⟩ = some (.slice be (ents.length + 2) de) ∧ W.cell? ⟨b4, 2, none⟩ = some (.slice bc (chs.length + 2) dc) ∧ W.cell? ⟨b4, 3, none⟩ = some (.slice bk (keys.length + 2) dk) ∧ W.cell? ⟨b4, 4, none⟩ = some (.slice bh (kids.length + 2) dh) ∧ W.cell? ⟨b4, 5, none⟩ = some (.int .i64 nx) ∧ W.cell? ⟨b4, 6, none⟩ = some (.string dt)) ∧ (W.cell? ⟨b1, 0, none⟩ = some (.int .i64 kd) ∧ W.cell? ⟨b1, 1, none⟩ = some (.slice ae ents.length ce) ∧ W.cell? ⟨b1, 2, none⟩ = some (.slice ac chs.length cc) ∧ W.cell? ⟨b1, 3, none⟩ = some (.slice ak keys.length ck) ∧ W.cell? ⟨b1, 4, none⟩ = some (.slice ah kids.length ch) ∧ W.cell? ⟨b1, 5, none⟩ = some (.int .i64 nx) ∧ W.cell? ⟨b1, 6, none⟩ = some (.string dt))) := Lib.hid (fun W hW => by
      have q := B6.out W (B12.out.trans (hW.mono B12.out.size))
      exact ⟨node_cells q.2.2.1, node_cells q.2.1⟩)
    go_wp2_with fail
    have B0 : Hid (Below w12.heap.size w12 w12.drew) := Lib.hid (below_drawn w12 1)
    have MK : Hid (∀ W, Below w12.heap.size w12 W → Calls Try.prog 19 #[.agg #[.int .i64 kd, .slice ae ents.length ce, .slice ac chs.length cc, .slice ak keys.length ck, .slice ah kids.length ch, .int .i64 nx, .string dt]] W fun e w' => ∃ ie je ic jc ik jk ih jh, e = .returned (.agg #[.int .i64 kd, .slice ie (ents.length + 2) je, .slice ic (chs.length + 2) jc, .slice ik (keys.length + 2) jk, .slice ih (kids.length + 2) jh, .int .i64 nx, .string dt]) ∧ Ls w' ⟨.slice ie (ents.length + 2) je, .slice ic (chs.length + 2) jc, .slice ik (keys.length + 2) jk, .slice ih (kids.length + 2) jh⟩ (mkN ⟨kd, ents, chs, keys, kids, nx, dt⟩) ∧ Below w12.heap.size w12 w') := Lib.hid (fun W hW => by
      refine (marked_lit kd nx dt ents chs kids keys ae ac ak ah ce cc ck ch W (HL.out.below (B6.out W (B12.out.trans (hW.mono B12.out.size))).1) HS.out.e HS.out.q).mono ?_
      rintro e w' ⟨ie, je, ic, jc, ik, jk, ih, jh, rfl, o, hb⟩
      exact ⟨ie, je, ic, jc, ik, jk, ih, jh, rfl, o.ls, hW.trans (hb.mono hW.size)⟩)
    have SN : Hid (∀ W ie je ic jc ik jk ih jh, Below w12.heap.size w12 W → Ls W ⟨.slice ie (ents.length + 2) je, .slice ic (chs.length + 2) jc, .slice ik (keys.length + 2) jk, .slice ih (kids.length + 2) jh⟩ (mkN ⟨kd, ents, chs, keys, kids, nx, dt⟩) → Calls Try.prog 14 #[.agg #[.int .i64 kd, .slice be (ents.length + 2) de, .slice bc (chs.length + 2) dc, .slice bk (keys.length + 2) dk, .slice bh (kids.length + 2) dh, .int .i64 nx, .string dt], .agg #[.int .i64 kd, .slice ie (ents.length + 2) je, .slice ic (chs.length + 2) jc, .slice ik (keys.length + 2) jk, .slice ih (kids.length + 2) jh, .int .i64 nx, .string dt]] W fun e w' => e = .returned (.bool true) ∧ Below w12.heap.size w12 w') := Lib.hid (fun W ie je ic jc ik jk ih jh hW hl => (sameNode_yes (mkN ⟨kd, ents, chs, keys, kids, nx, dt⟩) ⟨.slice be (ents.length + 2) de, .slice bc (chs.length + 2) dc, .slice bk (keys.length + 2) dk, .slice bh (kids.length + 2) dh⟩ ⟨.slice ie (ents.length + 2) je, .slice ic (chs.length + 2) jc, .slice ik (keys.length + 2) jk, .slice ih (kids.length + 2) jh⟩ W (B6.out W (B12.out.trans (hW.mono B12.out.size))).2.2.2.1 hl).mono (fun _ _ q => ⟨q.1, hW.trans (q.2.mono hW.size)⟩))
    go_region_held (fun W : World => (W.cell? ⟨b4, 0, none⟩ = some (.int .i64 kd) ∧ W.cell? ⟨b4, 1, none⟩ = some (.slice be (ents.length + 2) de) ∧ W.cell? ⟨b4, 2, none⟩ = some (.slice bc (chs.length + 2) dc) ∧ W.cell? ⟨b4, 3, none⟩ = some (.slice bk (keys.length + 2) dk) ∧ W.cell? ⟨b4, 4, none⟩ = some (.slice bh (kids.length + 2) dh) ∧ W.cell? ⟨b4, 5, none⟩ = some (.int .i64 nx) ∧ W.cell? ⟨b4, 6, none⟩ = some (.string dt)) ∧ (W.cell? ⟨b1, 0, none⟩ = some (.int .i64 kd) ∧ W.cell? ⟨b1, 1, none⟩ = some (.slice ae ents.length ce) ∧ W.cell? ⟨b1, 2, none⟩ = some (.slice ac chs.length cc) ∧ W.cell? ⟨b1, 3, none⟩ = some (.slice ak keys.length ck) ∧ W.cell? ⟨b1, 4, none⟩ = some (.slice ah kids.length ch) ∧ W.cell? ⟨b1, 5, none⟩ = some (.int .i64 nx) ∧ W.cell? ⟨b1, 6, none⟩ = some (.string dt))) (first | exact CS.out _ hB15 | exact CS.out _ hB14 | exact CS.out _ B0.out) (first | (go_at_call 19; refine (MK.out _ B0.out).mono ?_; rintro r w14 ⟨ie, je, ic, jc, ik, jk, ih, jh, rfl, l14, hB14⟩) | (go_at_call 14; refine (SN.out w14 ie je ic jc ik jk ih jh hB14 l14).mono ?_; rintro r w15 ⟨rfl, hB15⟩))
    have BF : Hid (Below w.heap.size w w15) := Lib.hid (B6.out w15 (B12.out.trans (hB15.mono B12.out.size))).1
    clear hB14 hB15 l14
    go_wp2_with fail
    go_ret
    exact ⟨rfl, BF.out⟩

  | false =>
    have HF := Lib.hid hf
    clear hf
    go_wp2_with fail
    refine (encode_no ⟨kd, ents, chs, keys, kids, nx, dt⟩ ⟨.slice be ents.length de, .slice bc chs.length dc, .slice bk keys.length dk, .slice bh kids.length dh⟩ w8 (B6.out w8 B8.out).2.2.2.2.2.2.2 HS.out.z HF.out).mono ?_
    rintro e w9 ⟨rfl, hb⟩
    clear p0 p1 p2 p3 p4 p5 p6
    have B9 := Lib.hid (B8.out.trans (hb.mono B8.out.size))
    clear hb B8
    obtain ⟨p0, p1, p2, p3, p4, p5, p6⟩ := node_cells (B6.out w9 B9.out).2.2.2.2.2.1


    go_wp2_with fail
    refine (renc_no ⟨kd, ents, chs, keys, kids, nx, dt⟩ ⟨.slice fe ents.length ge, .slice fc chs.length gc, .slice fk keys.length gk, .slice fh kids.length gh⟩ w9 (B6.out w9 B9.out).2.2.2.2.2.2.1 HS.out.z HF.out).mono ?_
    rintro e w10 ⟨rfl, hb⟩
    clear p0 p1 p2 p3 p4 p5 p6
    have B10 := Lib.hid (B9.out.trans (hb.mono B9.out.size))
    clear hb B9
    obtain ⟨p0, p1, p2, p3, p4, p5, p6⟩ := node_cells (B6.out w10 B10.out).2.2.2.2.2.1
    go_wp2_with fail
    refine (rSize_any ⟨kd, ents, chs, keys, kids, nx, dt⟩ ⟨.slice fe ents.length ge, .slice fc chs.length gc, .slice fk keys.length gk, .slice fh kids.length gh⟩ w10 (B6.out w10 B10.out).2.2.2.2.2.2.1 HS.out.z).mono ?_
    rintro e w11 ⟨rfl, hb⟩
    rw [← HSZ.out]
    clear p0 p1 p2 p3 p4 p5 p6
    have B11 := Lib.hid (B10.out.trans (hb.mono B10.out.size))

    clear hb B10
    obtain ⟨p0, p1, p2, p3, p4, p5, p6⟩ := node_cells (B6.out w11 B11.out).2.2.2.2.2.1
    go_wp2_with fail
    refine (rFits_any ⟨kd, ents, chs, keys, kids, nx, dt⟩ ⟨.slice fe ents.length ge, .slice fc chs.length gc, .slice fk keys.length gk, .slice fh kids.length gh⟩ w11 (B6.out w11 B11.out).2.2.2.2.2.2.1 HS.out.z).mono ?_
    rintro e w12 ⟨rfl, hb⟩
    rw [HF.out]
    clear p0 p1 p2 p3 p4 p5 p6
    have B12 := Lib.hid (B11.out.trans (hb.mono B11.out.size))

    clear hb B11
    go_wp2_with fail
    refine (sameW_any _ _ [] [] w12 (Bytes.nil w12) (Bytes.nil w12)).mono ?_
    rintro e w13 ⟨rfl, hww⟩
    obtain rfl := hww.symm
    rw [decide_eq_true rfl]
    have CS : Hid (∀ W, Below w12.heap.size w12 W → (W.cell? ⟨b4, 0, none⟩ = some (.int .i64 kd) ∧ W.cell? ⟨b4, 1, none⟩ = some (.slice be (ents.length + 2) de) ∧ W.cell? ⟨b4, 2, none⟩ = some (.slice bc (chs.length + 2) dc) ∧ W.cell? ⟨b4, 3, none⟩ = some (.slice bk (keys.length + 2) dk) ∧ W.cell? ⟨b4, 4, none⟩ = some (.slice bh (kids.length + 2) dh) ∧ W.cell? ⟨b4, 5, none⟩ = some (.int .i64 nx) ∧ W.cell? ⟨b4, 6, none⟩ = some (.string dt)) ∧ (W.cell? ⟨b1, 0, none⟩ = some (.int .i64 kd) ∧ W.cell? ⟨b1, 1, none⟩ = some (.slice ae ents.length ce) ∧ W.cell? ⟨b1, 2, none⟩ = some (.slice ac chs.length cc) ∧ W.cell? ⟨b1, 3, none⟩ = some (.slice ak keys.length ck) ∧ W.cell? ⟨b1, 4, none⟩ = some (.slice ah kids.length ch) ∧ W.cell? ⟨b1, 5, none⟩ = some (.int .i64 nx) ∧ W.cell? ⟨b1, 6, none⟩ = some (.string dt))) := Lib.hid (fun W hW => by
      have q := B6.out W (B12.out.trans (hW.mono B12.out.size))
      exact ⟨node_cells q.2.2.1, node_cells q.2.1⟩)
    go_wp2_with fail
    have B0 : Hid (Below w12.heap.size w12 w12.drew) := Lib.hid (below_drawn w12 1)
    have MK : Hid (∀ W, Below w12.heap.size w12 W → Calls Try.prog 19 #[.agg #[.int .i64 kd, .slice ae ents.length ce, .slice ac chs.length cc, .slice ak keys.length ck, .slice ah kids.length ch, .int .i64 nx, .string dt]] W fun e w' => ∃ ie je ic jc ik jk ih jh, e = .returned (.agg #[.int .i64 kd, .slice ie (ents.length + 2) je, .slice ic (chs.length + 2) jc, .slice ik (keys.length + 2) jk, .slice ih (kids.length + 2) jh, .int .i64 nx, .string dt]) ∧ Ls w' ⟨.slice ie (ents.length + 2) je, .slice ic (chs.length + 2) jc, .slice ik (keys.length + 2) jk, .slice ih (kids.length + 2) jh⟩ (mkN ⟨kd, ents, chs, keys, kids, nx, dt⟩) ∧ Below w12.heap.size w12 w') := Lib.hid (fun W hW => by
      refine (marked_lit kd nx dt ents chs kids keys ae ac ak ah ce cc ck ch W (HL.out.below (B6.out W (B12.out.trans (hW.mono B12.out.size))).1) HS.out.e HS.out.q).mono ?_
      rintro e w' ⟨ie, je, ic, jc, ik, jk, ih, jh, rfl, o, hb⟩
      exact ⟨ie, je, ic, jc, ik, jk, ih, jh, rfl, o.ls, hW.trans (hb.mono hW.size)⟩)
    have SN : Hid (∀ W ie je ic jc ik jk ih jh, Below w12.heap.size w12 W → Ls W ⟨.slice ie (ents.length + 2) je, .slice ic (chs.length + 2) jc, .slice ik (keys.length + 2) jk, .slice ih (kids.length + 2) jh⟩ (mkN ⟨kd, ents, chs, keys, kids, nx, dt⟩) → Calls Try.prog 14 #[.agg #[.int .i64 kd, .slice be (ents.length + 2) de, .slice bc (chs.length + 2) dc, .slice bk (keys.length + 2) dk, .slice bh (kids.length + 2) dh, .int .i64 nx, .string dt], .agg #[.int .i64 kd, .slice ie (ents.length + 2) je, .slice ic (chs.length + 2) jc, .slice ik (keys.length + 2) jk, .slice ih (kids.length + 2) jh, .int .i64 nx, .string dt]] W fun e w' => e = .returned (.bool true) ∧ Below w12.heap.size w12 w') := Lib.hid (fun W ie je ic jc ik jk ih jh hW hl => (sameNode_yes (mkN ⟨kd, ents, chs, keys, kids, nx, dt⟩) ⟨.slice be (ents.length + 2) de, .slice bc (chs.length + 2) dc, .slice bk (keys.length + 2) dk, .slice bh (kids.length + 2) dh⟩ ⟨.slice ie (ents.length + 2) je, .slice ic (chs.length + 2) jc, .slice ik (keys.length + 2) jk, .slice ih (kids.length + 2) jh⟩ W (B6.out W (B12.out.trans (hW.mono B12.out.size))).2.2.2.1 hl).mono (fun _ _ q => ⟨q.1, hW.trans (q.2.mono hW.size)⟩))
    go_region_held (fun W : World => (W.cell? ⟨b4, 0, none⟩ = some (.int .i64 kd) ∧ W.cell? ⟨b4, 1, none⟩ = some (.slice be (ents.length + 2) de) ∧ W.cell? ⟨b4, 2, none⟩ = some (.slice bc (chs.length + 2) dc) ∧ W.cell? ⟨b4, 3, none⟩ = some (.slice bk (keys.length + 2) dk) ∧ W.cell? ⟨b4, 4, none⟩ = some (.slice bh (kids.length + 2) dh) ∧ W.cell? ⟨b4, 5, none⟩ = some (.int .i64 nx) ∧ W.cell? ⟨b4, 6, none⟩ = some (.string dt)) ∧ (W.cell? ⟨b1, 0, none⟩ = some (.int .i64 kd) ∧ W.cell? ⟨b1, 1, none⟩ = some (.slice ae ents.length ce) ∧ W.cell? ⟨b1, 2, none⟩ = some (.slice ac chs.length cc) ∧ W.cell? ⟨b1, 3, none⟩ = some (.slice ak keys.length ck) ∧ W.cell? ⟨b1, 4, none⟩ = some (.slice ah kids.length ch) ∧ W.cell? ⟨b1, 5, none⟩ = some (.int .i64 nx) ∧ W.cell? ⟨b1, 6, none⟩ = some (.string dt))) (first | exact CS.out _ hB15 | exact CS.out _ hB14 | exact CS.out _ B0.out) (first | (go_at_call 19; refine (MK.out _ B0.out).mono ?_; rintro r w14 ⟨ie, je, ic, jc, ik, jk, ih, jh, rfl, l14, hB14⟩) | (go_at_call 14; refine (SN.out w14 ie je ic jc ik jk ih jh hB14 l14).mono ?_; rintro r w15 ⟨rfl, hB15⟩))
    have BF : Hid (Below w.heap.size w w15) := Lib.hid (B6.out w15 (B12.out.trans (hB15.mono B12.out.size))).1
    clear hB14 hB15 l14
    go_wp2_with fail
    go_ret
    exact ⟨rfl, BF.out⟩
end Go.Proofs.Ytdlkebmndjmpdaa
