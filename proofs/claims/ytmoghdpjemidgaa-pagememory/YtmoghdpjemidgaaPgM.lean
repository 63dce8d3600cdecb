/-
  What bytes seem to say: a leaf's entries.
-/
import Derived.Test.YtmoghdpjemidgaaPgR
import Derived.Test.YtmoghdpjemidgaaPgS
namespace Go.Proofs.Ytmoghdpjemidgaa
open Go.RowKit Go.Maps
theorem info_ent : (Try.prog.info? 29).map (fun i => (i.zero, i.size, i.bytes)) = some (some (.agg #[.string ⟨#[]⟩, .string ⟨#[]⟩]), 2, 32) := by kernel_rfl
theorem OwnE.lt {B : Nat} {w : World} {v : Value} {l : List Ent} (h : OwnE B w v l) : ∀ k, v.ownBlock = some k → B ≤ k ∧ k < w.heap.size := World.ownsRow.lt h
theorem OwnE.kept {B : Nat} {F : Nat → Prop} {w w' : World} {v : Value} {l : List Ent} (H : OwnE B w v l) (hk : Kept F w w') (hF : ∀ k, v.ownBlock = some k → ¬ F k) : OwnE B w' v l := by
  obtain ⟨h1, h | ⟨g, cap, cur, hv, hB, hg, hr⟩⟩ := H
  · exact ⟨h1, .inl h⟩
  · subst hv
    exact ⟨h1, .inr ⟨g, cap, cur, rfl, hB, by rw [hk.block g (lt_of_heap hg) (hF g rfl)]; exact hg, hr⟩⟩
theorem OwnE.row {B : Nat} {w : World} {v : Value} {l : List Ent} (h : OwnE B w v l) {g : Nat} (hg : v.ownBlock = some g) : ∃ cur, w.heap[g]? = some (.cells cur 29 (0, 0)) := by
  obtain ⟨_, ⟨hv, _⟩ | ⟨g', cap, cur, hv, _, hh, _⟩⟩ := h
  · rw [hv] at hg; cases hg
  · rw [hv] at hg
    have e1 : g' = g := by injection hg
    subst e1
    exact ⟨cur, hh⟩
theorem own_ne {B : Nat} {w : World} {v u : Value} {es : List Ent} {cs : List Int} (h : OwnE B w v es) (k : OwnI B w u cs) : ∀ g, v.ownBlock = some g → u.ownBlock ≠ some g := by
  intro g h1 h2
  obtain ⟨c1, e1⟩ := h.row h1
  obtain ⟨c2, e2⟩ := k.row h2
  rw [e1] at e2
  have : (29 : Nat) = 3 := by injection e2 with e3; injection e3
  omega
/-- One entry more behind a row of the call's own. -/
theorem app_ent {ops : Array Oper} {rest : List Oper} {o : Oper} {a : Act} {Q : Exit → Act → World → Prop} (hgd : o.guard = none) (s x : Operand)
    (ho : o.op = .call { callee := .builtin .append, args := #[s, x], argTypes := #[25, 25] })
    {B : Nat} {w0 : World} {v : Value} {es : List Ent} (hs : a.eval s = v) (hown : OwnE B w0 v es) (hB : B ≤ w0.heap.size) (p q : ByteArray)
    (hx : a.eval x = .slice (some ⟨w0.heap.size, 0, none⟩) 1 1) (hl : es.length ≤ 1000000)
    (h : ∀ v' w', Hid (OwnE B w' v' (es ++ [(p, q)]) ∧ w0.grownBy w' v.ownBlock) → wpList Try.prog ops Q rest (a.put o.dst v') w') :
    wpList Try.prog ops Q (o :: rest) a (w0.alloc (.cells #[.string p, .string q] 29)) := by
  obtain ⟨i0, hi, hz0, hz1, hz2⟩ := info_parts info_ent
  refine wpList_append_own_at _ hgd s x 25 ho B 29 i0 _ 2 32 Try.underlying25 hi hz0 hz1 hz2 rfl (by decide) v es.length (cellsE es) hs (World.ownsRow.alloc hown _) ⟨w0.heap.size, 0, none⟩ 1 1 [.string p, .string q] hx rfl ?_ ?_ (by unfold maxLen; omega) (by omega) (by simp; omega) ?_
  · intro j u hj
    rw [add_plain, Nat.zero_add, World.cell?_alloc_new, ← Array.getElem?_toList]; exact hj
  · exact encE_one (p, q)
  · intro v' w' h1 h2 _ _
    refine h v' w' (Lib.hid ⟨?_, grown_alloc h2⟩)
    show w'.ownsRow _ _ _ _ _ _
    rw [cellsE_app, List.length_append]; exact h1
theorem app_int1 {ops : Array Oper} {rest : List Oper} {o : Oper} {a : Act} {Q : Exit → Act → World → Prop} (hgd : o.guard = none) (s x : Operand)
    (ho : o.op = .call { callee := .builtin .append, args := #[s, x], argTypes := #[23, 23] })
    {B : Nat} {w0 : World} {v : Value} {l : List Int} (hs : a.eval s = v) (hown : OwnI B w0 v l) (hB : B ≤ w0.heap.size) (n : Int)
    (hx : a.eval x = .slice (some ⟨w0.heap.size, 0, none⟩) 1 1) (hl : l.length ≤ 1000000)
    (h : ∀ v' w', Hid (OwnI B w' v' (l ++ [n]) ∧ w0.grownBy w' v.ownBlock) → wpList Try.prog ops Q rest (a.put o.dst v') w') :
    wpList Try.prog ops Q (o :: rest) a (w0.alloc (.cells #[.int .i64 n] 3)) := by
  refine app_new hgd s x ho (m := [n]) rfl hs hown hB hx rfl (by simp; omega) ?_
  intro v' w' h1 h2 _
  exact h v' w' (Lib.hid ⟨h1, h2⟩)
def nilV : Value := .slice none 0 0
/-- A leaf as it is read. -/
structure Se (w W : World) (gs gn gr : Nat) (ve vc : Value) (es : List Ent) (cs : List Int) (l : List UInt8) (bb oo c : Nat) : Prop where
  n : W.heap[gn]? = some (.cells #[.int .i64 1, ve, vc, .slice none 0 0, .slice none 0 0, .int .i64 0, .string ⟨#[]⟩] 27 (0, 0))
  s : W.heap[gs]? = some (.cells #[.int .i64 0, .slice none 0 0, .slice none 0 0, .slice none 0 0, .slice none 0 0, .int .i64 0, .string ⟨#[]⟩] 27 (0, 0))
  r : Rd W gr l bb oo c
  e : OwnE (gr + 1) W ve es
  i : OwnI (gr + 1) W vc cs
  o : w.heap.size ≤ gs ∧ gs < gn ∧ gn < gr ∧ bb < w.heap.size
  bl : Below w.heap.size w W
theorem Se.lt {w W : World} {gs gn gr : Nat} {ve vc : Value} {es : List Ent} {cs : List Int} {l : List UInt8} {bb oo c : Nat} (h : Se w W gs gn gr ve vc es cs l bb oo c) : gr < W.heap.size := lt_of_heap h.r.h
theorem Se.alloc {w W : World} {gs gn gr : Nat} {ve vc : Value} {es : List Ent} {cs : List Int} {l : List UInt8} {bb oo c : Nat} (h : Se w W gs gn gr ve vc es cs l bb oo c) (ob : Obj) : Se w (W.alloc ob) gs gn gr ve vc es cs l bb oo c := by
  have hb : Below W.heap.size W (W.alloc ob) := (Below.refl _ _).alloc (Nat.le_refl _) _
  have hk : Kept (fun _ => False) W (W.alloc ob) := Below.kept hb _
  exact ⟨by rw [hk.block _ (lt_of_heap h.n) (fun h => h)]; exact h.n, by rw [hk.block _ (lt_of_heap h.s) (fun h => h)]; exact h.s, h.r.kept hk (fun h => h) (fun h => h), h.e.kept hk (fun _ _ h => h), h.i.kept hk (fun _ _ h => h), h.o, h.bl.alloc h.bl.size ob⟩
theorem Se.read {w W W' : World} {gs gn gr : Nat} {ve vc : Value} {es : List Ent} {cs : List Int} {l l' : List UInt8} {bb oo c oo' c' : Nat} (h : Se w W gs gn gr ve vc es cs l bb oo c) (hr : Rd W' gr l' bb oo' c') (hk : Kept (fun y => y = gr) W W') : Se w W' gs gn gr ve vc es cs l' bb oo' c' :=
  ⟨by rw [hk.block _ (lt_of_heap h.n) (by have := h.o; omega)]; exact h.n, by rw [hk.block _ (lt_of_heap h.s) (by have := h.o; omega)]; exact h.s, hr, h.e.kept hk (fun g hg e => by have := (h.e.lt g hg).1; omega), h.i.kept hk (fun g hg e => by have := (h.i.lt g hg).1; omega), h.o, h.bl.trans (hk.below h.bl.size (fun x hx => by have := h.o; omega))⟩
theorem Se.ent {w W W' : World} {gs gn gr : Nat} {ve vc ve' : Value} {es es' : List Ent} {cs : List Int} {l : List UInt8} {bb oo c : Nat} (h : Se w W gs gn gr ve vc es cs l bb oo c) (he : OwnE (gr + 1) W' ve' es') (hg : W.grownBy W' ve.ownBlock) : Se w (W'.setCell ⟨gn, 1, none⟩ ve') gs gn gr ve' vc es' cs l bb oo c := by
  have hk := grown_kept hg
  have n0 : ∀ k, k ≤ gr → ¬ some k = ve.ownBlock := fun k hk e => by have := (h.e.lt k e.symm).1; omega
  have hn : W'.heap[gn]? = _ := (hk.block gn (lt_of_heap h.n) (n0 gn (by have := h.o; omega))).trans h.n
  have hs := kept_set (F := fun y => y = gn) W' ⟨gn, 1, none⟩ ve' rfl
  refine ⟨by rw [heap_setCell_same _ _ _ _ _ _ hn]; rfl, ?_, ?_, ?_, ?_, h.o, ?_⟩
  · rw [hs.block gs (Nat.lt_of_lt_of_le (lt_of_heap h.s) hk.size) (by have := h.o; omega), hk.block gs (lt_of_heap h.s) (n0 gs (by have := h.o; omega))]; exact h.s
  · exact (h.r.kept hk (n0 gr (Nat.le_refl _)) (n0 bb (by have := h.o; omega))).kept hs (by have := h.o; omega) (by have := h.o; omega)
  · exact he.kept hs (fun g hg e => by have := (he.lt g hg).1; have := h.o; omega)
  · exact (h.i.kept hk (fun g hg e => own_ne h.e h.i g e.symm hg)).kept hs (fun g hg e => by have := (h.i.lt g hg).1; have := h.o; omega)
  · refine (h.bl.trans (hk.below h.bl.size (fun x hx => ?_))).trans (hs.below (Nat.le_trans h.bl.size hk.size) (fun x hx => by have := h.o; omega))
    have := (h.e.lt x hx.symm).1; have := h.o; omega
theorem Se.int {w W W' : World} {gs gn gr : Nat} {ve vc vc' : Value} {es : List Ent} {cs cs' : List Int} {l : List UInt8} {bb oo c : Nat} (h : Se w W gs gn gr ve vc es cs l bb oo c) (he : OwnI (gr + 1) W' vc' cs') (hg : W.grownBy W' vc.ownBlock) : Se w (W'.setCell ⟨gn, 2, none⟩ vc') gs gn gr ve vc' es cs' l bb oo c := by
  have hk := grown_kept hg
  have n0 : ∀ k, k ≤ gr → ¬ some k = vc.ownBlock := fun k hk e => by have := (h.i.lt k e.symm).1; omega
  have hn : W'.heap[gn]? = _ := (hk.block gn (lt_of_heap h.n) (n0 gn (by have := h.o; omega))).trans h.n
  have hs := kept_set (F := fun y => y = gn) W' ⟨gn, 2, none⟩ vc' rfl
  refine ⟨by rw [heap_setCell_same _ _ _ _ _ _ hn]; rfl, ?_, ?_, ?_, ?_, h.o, ?_⟩
  · rw [hs.block gs (Nat.lt_of_lt_of_le (lt_of_heap h.s) hk.size) (by have := h.o; omega), hk.block gs (lt_of_heap h.s) (n0 gs (by have := h.o; omega))]; exact h.s
  · exact (h.r.kept hk (n0 gr (Nat.le_refl _)) (n0 bb (by have := h.o; omega))).kept hs (by have := h.o; omega) (by have := h.o; omega)
  · exact (h.e.kept hk (fun g hg e => own_ne h.e h.i g hg e.symm)).kept hs (fun g hg e => by have := (h.e.lt g hg).1; have := h.o; omega)
  · exact he.kept hs (fun g hg e => by have := (he.lt g hg).1; have := h.o; omega)
  · refine (h.bl.trans (hk.below h.bl.size (fun x hx => ?_))).trans (hs.below (Nat.le_trans h.bl.size hk.size) (fun x hx => by have := h.o; omega))
    have := (h.i.lt x hx.symm).1; have := h.o; omega
/-- The entries that are read, and their chains. -/
def rdL : Nat → Nat → List Ent → List Int → List UInt8 → List Ent × List Int
  | 0, _, es, cs, _ => (es, cs)
  | f + 1, cnt, es, cs, l => if es.length < cnt ∧ 0 < l.length then rdL f cnt (es ++ [(enR l).1]) (cs ++ [((enR l).2.1 : Int)]) (enR l).2.2 else (es, cs)
end Go.Proofs.Ytmoghdpjemidgaa
