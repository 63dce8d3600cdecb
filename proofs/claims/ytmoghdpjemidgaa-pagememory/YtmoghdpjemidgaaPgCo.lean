/-
  A node that is copied: its lists grow one after the other.
-/
import Derived.Test.YtmoghdpjemidgaaPgEb
import Derived.Test.YtmoghdpjemidgaaPgM
namespace Go.Proofs.Ytmoghdpjemidgaa
open Go.RowKit Go.Maps
theorem OwnS.kept {B : Nat} {F : Nat → Prop} {w w' : World} {v : Value} {l : List ByteArray} (H : OwnS B w v l) (hk : Kept F w w') (hF : ∀ k, v.ownBlock = some k → ¬ F k) : OwnS B w' v l := by
  obtain ⟨h1, h | ⟨g, cap, cur, hv, hB, hg, hr⟩⟩ := H
  · exact ⟨h1, .inl h⟩
  · subst hv
    exact ⟨h1, .inr ⟨g, cap, cur, rfl, hB, by rw [hk.block g (lt_of_heap hg) (hF g rfl)]; exact hg, hr⟩⟩
theorem OwnS.row {B : Nat} {w : World} {v : Value} {l : List ByteArray} (h : OwnS B w v l) {g : Nat} (hg : v.ownBlock = some g) : ∃ cur, w.heap[g]? = some (.cells cur 9 (0, 0)) := by
  obtain ⟨_, ⟨hv, _⟩ | ⟨g', cap, cur, hv, _, hh, _⟩⟩ := h
  · rw [hv] at hg; cases hg
  · rw [hv] at hg
    have e1 : g' = g := by injection hg
    subst e1
    exact ⟨cur, hh⟩
theorem row_ne {w : World} {g : Nat} {c1 c2 : Array Value} {t1 t2 : Nat} (h1 : w.heap[g]? = some (.cells c1 t1 (0, 0))) (h2 : w.heap[g]? = some (.cells c2 t2 (0, 0))) (hn : t1 ≠ t2) : False := by
  rw [h1] at h2
  have : t1 = t2 := by injection h2 with e3; injection e3
  exact hn this
/-- A node under way: the block gm; the box of what is copied, gx; the zero answer, gs. -/
structure Nw (w W : World) (gx gs gm : Nat) (A : Array Value) (kd nx : Int) (dt : ByteArray) (v : Nv) (n : Nd) : Prop where
  x : W.heap[gx]? = some (.cells A 27 (0, 0))
  s : W.heap[gs]? = some (.cells zN 27 (0, 0))
  m : W.heap[gm]? = some (.cells #[.int .i64 kd, v.e, v.c, v.k, v.h, .int .i64 nx, .string dt] 27 (0, 0))
  e : OwnE (gm + 1) W v.e n.ents
  c : OwnI (gm + 1) W v.c n.chs
  k : OwnS (gm + 1) W v.k n.keys
  h : OwnI (gm + 1) W v.h n.kids
  ap : ∀ g, v.c.ownBlock = some g → v.h.ownBlock ≠ some g
  o : w.heap.size ≤ gx ∧ gx < gs ∧ gs < gm
  bl : Below w.heap.size w W
theorem Nw.lt {w W : World} {gx gs gm : Nat} {A : Array Value} {kd nx : Int} {dt : ByteArray} {v : Nv} {n : Nd} (h : Nw w W gx gs gm A kd nx dt v n) : gm < W.heap.size := lt_of_heap h.m
/-- All but the blocks of F stays, F none of the node's. -/
theorem Nw.stay {F : Nat → Prop} {w W W' : World} {gx gs gm : Nat} {A : Array Value} {kd nx : Int} {dt : ByteArray} {v : Nv} {n : Nd} (h : Nw w W gx gs gm A kd nx dt v n) (hk : Kept F W W') (hF : ∀ y, F y → False) : Nw w W' gx gs gm A kd nx dt v n :=
  ⟨by rw [hk.block _ (lt_of_heap h.x) (hF _)]; exact h.x, by rw [hk.block _ (lt_of_heap h.s) (hF _)]; exact h.s, by rw [hk.block _ (lt_of_heap h.m) (hF _)]; exact h.m, h.e.kept hk (fun _ _ => hF _), h.c.kept hk (fun _ _ => hF _), h.k.kept hk (fun _ _ => hF _), h.h.kept hk (fun _ _ => hF _), h.ap, h.o, h.bl.trans (hk.below h.bl.size (fun x hx => (hF x hx).elim))⟩
theorem Nw.drew {w W : World} {gx gs gm : Nat} {A : Array Value} {kd nx : Int} {dt : ByteArray} {v : Nv} {n : Nd} (h : Nw w W gx gs gm A kd nx dt v n) : Nw w W.drew gx gs gm A kd nx dt v n :=
  h.stay (F := fun _ => False) ⟨rfl, rfl, rfl, Nat.le_refl _, fun _ _ _ => rfl⟩ (fun _ h => h)
theorem Nw.alloc {w W : World} {gx gs gm : Nat} {A : Array Value} {kd nx : Int} {dt : ByteArray} {v : Nv} {n : Nd} (h : Nw w W gx gs gm A kd nx dt v n) (ob : Obj) : Nw w (W.alloc ob) gx gs gm A kd nx dt v n :=
  h.stay (F := fun _ => False) (Below.kept ((Below.refl _ _).alloc (Nat.le_refl _) _) _) (fun _ h => h)
/-- The entries grew, and the node's field with them. -/
theorem Nw.ent {w W W' : World} {gx gs gm : Nat} {A : Array Value} {kd nx : Int} {dt : ByteArray} {v : Nv} {n : Nd} {v' : Value} {es : List Ent} (h : Nw w W gx gs gm A kd nx dt v n) (he : OwnE (gm + 1) W' v' es) (hg : W.grownBy W' v.e.ownBlock) :
    Nw w (W'.setCell ⟨gm, 1, none⟩ v') gx gs gm A kd nx dt ⟨v', v.c, v.k, v.h⟩ { n with ents := es } := by
  have hk := grown_kept hg
  have n0 : ∀ y, y ≤ gm → ¬ some y = v.e.ownBlock := fun y hy e => by have := (h.e.lt y e.symm).1; omega
  have hm : W'.heap[gm]? = _ := (hk.block gm (lt_of_heap h.m) (n0 gm (Nat.le_refl _))).trans h.m
  have hs := kept_set (F := fun y => y = gm) W' ⟨gm, 1, none⟩ v' rfl
  have ho := h.o
  refine ⟨?_, ?_, by rw [heap_setCell_same _ _ _ _ _ _ hm]; rfl, ?_, ?_, ?_, ?_, h.ap, h.o, ?_⟩
  · rw [hs.block gx (Nat.lt_of_lt_of_le (lt_of_heap h.x) hk.size) (by omega), hk.block gx (lt_of_heap h.x) (n0 gx (by omega))]; exact h.x
  · rw [hs.block gs (Nat.lt_of_lt_of_le (lt_of_heap h.s) hk.size) (by omega), hk.block gs (lt_of_heap h.s) (n0 gs (by omega))]; exact h.s
  · exact he.kept hs (fun g hg e => by have := (he.lt g hg).1; omega)
  · exact (h.c.kept hk (fun g hg e => own_ne h.e h.c g e.symm hg)).kept hs (fun g hg e => by have := (h.c.lt g hg).1; omega)
  · refine (h.k.kept hk (fun g hg e => ?_)).kept hs (fun g hg e => by have := (h.k.lt g hg).1; omega)
    obtain ⟨c1, e1⟩ := h.e.row e.symm
    obtain ⟨c2, e2⟩ := h.k.row hg
    exact row_ne e1 e2 (by decide)
  · exact (h.h.kept hk (fun g hg e => own_ne h.e h.h g e.symm hg)).kept hs (fun g hg e => by have := (h.h.lt g hg).1; omega)
  · refine (h.bl.trans (hk.below h.bl.size (fun x hx => ?_))).trans (hs.below (Nat.le_trans h.bl.size hk.size) (fun x hx => by omega))
    have := (h.e.lt x hx.symm).1; omega
theorem ints_str_ne {B : Nat} {w : World} {v u : Value} {es : List ByteArray} {cs : List Int} (h : OwnS B w v es) (k : OwnI B w u cs) : ∀ g, v.ownBlock = some g → u.ownBlock ≠ some g := fun g h1 h2 => by
  obtain ⟨c1, e1⟩ := h.row h1
  obtain ⟨c2, e2⟩ := k.row h2
  exact row_ne e1 e2 (by decide)
/-- The chains grew. -/
theorem Nw.chain {w W W' : World} {gx gs gm : Nat} {A : Array Value} {kd nx : Int} {dt : ByteArray} {v : Nv} {n : Nd} {v' : Value} {cs : List Int} (h : Nw w W gx gs gm A kd nx dt v n) (he : OwnI (gm + 1) W' v' cs) (hg : W.grownBy W' v.c.ownBlock) (ha : At v.c v' W) :
    Nw w (W'.setCell ⟨gm, 2, none⟩ v') gx gs gm A kd nx dt ⟨v.e, v', v.k, v.h⟩ { n with chs := cs } := by
  have hk := grown_kept hg
  have n0 : ∀ y, y ≤ gm → ¬ some y = v.c.ownBlock := fun y hy e => by have := (h.c.lt y e.symm).1; omega
  have hm : W'.heap[gm]? = _ := (hk.block gm (lt_of_heap h.m) (n0 gm (Nat.le_refl _))).trans h.m
  have hs := kept_set (F := fun y => y = gm) W' ⟨gm, 2, none⟩ v' rfl
  have ho := h.o
  refine ⟨?_, ?_, by rw [heap_setCell_same _ _ _ _ _ _ hm]; rfl, ?_, ?_, ?_, ?_, ?_, h.o, ?_⟩
  · rw [hs.block gx (Nat.lt_of_lt_of_le (lt_of_heap h.x) hk.size) (by omega), hk.block gx (lt_of_heap h.x) (n0 gx (by omega))]; exact h.x
  · rw [hs.block gs (Nat.lt_of_lt_of_le (lt_of_heap h.s) hk.size) (by omega), hk.block gs (lt_of_heap h.s) (n0 gs (by omega))]; exact h.s
  · exact (h.e.kept hk (fun g hg e => own_ne h.e h.c g hg e.symm)).kept hs (fun g hg e => by have := (h.e.lt g hg).1; omega)
  · exact he.kept hs (fun g hg e => by have := (he.lt g hg).1; omega)
  · exact (h.k.kept hk (fun g hg e => ints_str_ne h.k h.c g hg e.symm)).kept hs (fun g hg e => by have := (h.k.lt g hg).1; omega)
  · exact (h.h.kept hk (fun g hg e => h.ap g e.symm hg)).kept hs (fun g hg e => by have := (h.h.lt g hg).1; omega)
  · intro g h1 h2
    rcases ha g h1.symm with q | q
    · exact h.ap g q.symm h2
    · have := (h.h.lt g h2).2; omega
  · refine (h.bl.trans (hk.below h.bl.size (fun x hx => ?_))).trans (hs.below (Nat.le_trans h.bl.size hk.size) (fun x hx => by omega))
    have := (h.c.lt x hx.symm).1; omega
/-- The keys grew. -/
theorem Nw.key {w W W' : World} {gx gs gm : Nat} {A : Array Value} {kd nx : Int} {dt : ByteArray} {v : Nv} {n : Nd} {v' : Value} {ks : List ByteArray} (h : Nw w W gx gs gm A kd nx dt v n) (he : OwnS (gm + 1) W' v' ks) (hg : W.grownBy W' v.k.ownBlock) :
    Nw w (W'.setCell ⟨gm, 3, none⟩ v') gx gs gm A kd nx dt ⟨v.e, v.c, v', v.h⟩ { n with keys := ks } := by
  have hk := grown_kept hg
  have n0 : ∀ y, y ≤ gm → ¬ some y = v.k.ownBlock := fun y hy e => by have := (h.k.lt y e.symm).1; omega
  have hm : W'.heap[gm]? = _ := (hk.block gm (lt_of_heap h.m) (n0 gm (Nat.le_refl _))).trans h.m
  have hs := kept_set (F := fun y => y = gm) W' ⟨gm, 3, none⟩ v' rfl
  have ho := h.o
  refine ⟨?_, ?_, by rw [heap_setCell_same _ _ _ _ _ _ hm]; rfl, ?_, ?_, ?_, ?_, h.ap, h.o, ?_⟩
  · rw [hs.block gx (Nat.lt_of_lt_of_le (lt_of_heap h.x) hk.size) (by omega), hk.block gx (lt_of_heap h.x) (n0 gx (by omega))]; exact h.x
  · rw [hs.block gs (Nat.lt_of_lt_of_le (lt_of_heap h.s) hk.size) (by omega), hk.block gs (lt_of_heap h.s) (n0 gs (by omega))]; exact h.s
  · refine (h.e.kept hk (fun g hg e => ?_)).kept hs (fun g hg e => by have := (h.e.lt g hg).1; omega)
    obtain ⟨c1, e1⟩ := h.e.row hg
    obtain ⟨c2, e2⟩ := h.k.row e.symm
    exact row_ne e1 e2 (by decide)
  · exact (h.c.kept hk (fun g hg e => ints_str_ne h.k h.c g e.symm hg)).kept hs (fun g hg e => by have := (h.c.lt g hg).1; omega)
  · exact he.kept hs (fun g hg e => by have := (he.lt g hg).1; omega)
  · exact (h.h.kept hk (fun g hg e => ints_str_ne h.k h.h g e.symm hg)).kept hs (fun g hg e => by have := (h.h.lt g hg).1; omega)
  · refine (h.bl.trans (hk.below h.bl.size (fun x hx => ?_))).trans (hs.below (Nat.le_trans h.bl.size hk.size) (fun x hx => by omega))
    have := (h.k.lt x hx.symm).1; omega
/-- The children grew. -/
theorem Nw.kid {w W W' : World} {gx gs gm : Nat} {A : Array Value} {kd nx : Int} {dt : ByteArray} {v : Nv} {n : Nd} {v' : Value} {cs : List Int} (h : Nw w W gx gs gm A kd nx dt v n) (he : OwnI (gm + 1) W' v' cs) (hg : W.grownBy W' v.h.ownBlock) (ha : At v.h v' W) :
    Nw w (W'.setCell ⟨gm, 4, none⟩ v') gx gs gm A kd nx dt ⟨v.e, v.c, v.k, v'⟩ { n with kids := cs } := by
  have hk := grown_kept hg
  have n0 : ∀ y, y ≤ gm → ¬ some y = v.h.ownBlock := fun y hy e => by have := (h.h.lt y e.symm).1; omega
  have hm : W'.heap[gm]? = _ := (hk.block gm (lt_of_heap h.m) (n0 gm (Nat.le_refl _))).trans h.m
  have hs := kept_set (F := fun y => y = gm) W' ⟨gm, 4, none⟩ v' rfl
  have ho := h.o
  refine ⟨?_, ?_, by rw [heap_setCell_same _ _ _ _ _ _ hm]; rfl, ?_, ?_, ?_, ?_, ?_, h.o, ?_⟩
  · rw [hs.block gx (Nat.lt_of_lt_of_le (lt_of_heap h.x) hk.size) (by omega), hk.block gx (lt_of_heap h.x) (n0 gx (by omega))]; exact h.x
  · rw [hs.block gs (Nat.lt_of_lt_of_le (lt_of_heap h.s) hk.size) (by omega), hk.block gs (lt_of_heap h.s) (n0 gs (by omega))]; exact h.s
  · exact (h.e.kept hk (fun g hg e => own_ne h.e h.h g hg e.symm)).kept hs (fun g hg e => by have := (h.e.lt g hg).1; omega)
  · exact (h.c.kept hk (fun g hg e => h.ap g hg e.symm)).kept hs (fun g hg e => by have := (h.c.lt g hg).1; omega)
  · exact (h.k.kept hk (fun g hg e => ints_str_ne h.k h.h g hg e.symm)).kept hs (fun g hg e => by have := (h.k.lt g hg).1; omega)
  · exact he.kept hs (fun g hg e => by have := (he.lt g hg).1; omega)
  · intro g h1 h2
    rcases ha g h2.symm with q | q
    · exact h.ap g h1 q.symm
    · have := (h.c.lt g h1).2; omega
  · refine (h.bl.trans (hk.below h.bl.size (fun x hx => ?_))).trans (hs.below (Nat.le_trans h.bl.size hk.size) (fun x hx => by omega))
    have := (h.h.lt x hx.symm).1; omega
end Go.Proofs.Ytmoghdpjemidgaa
