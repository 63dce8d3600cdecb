/-
  Why, of every question.
-/
import Derived.Test.YtdhnpgciclbfeaaGreatDoorAcP
namespace Go.Proofs.YtdhnpgciclbfeaaGreatDoor
open Go.RowKit Go.Shelf
attribute [local go_sem] Oper.semAt_some
namespace Ac
theorem gW_size (w : World) (t : Nat) (u : ByteArray) (v : Int) : (gW w t u v).heap.size = w.heap.size + 3 := by simp [gW]
theorem gW_below (w : World) (t : Nat) (u : ByteArray) (v : Int) : Below w.heap.size w (gW w t u v) := by
  unfold gW
  exact (((Below.refl _ w).alloc (Nat.le_refl _) _).alloc (by simp) _).alloc (by simp; omega) _
theorem gW_cells (w : World) (t : Nat) (u : ByteArray) (v : Int) : (gW w t u v).cell? ⟨w.heap.size, 0, none⟩ = some (.pointer (some ⟨t, 0, none⟩)) ∧ (gW w t u v).cell? ⟨w.heap.size + 1, 0, none⟩ = some (.string u) ∧ (gW w t u v).cell? ⟨w.heap.size + 1 + 1, 0, none⟩ = some (.int .i64 v) := by
  unfold gW
  refine ⟨cellA (cellA (by rw [World.cell?_alloc_new]; rfl) _) _, cellA ?_ _, ?_⟩
  · have := World.cell?_alloc_new (w.alloc (.cells #[.pointer (some ⟨t, 0, none⟩)] 23)) #[.string u] 9 0
    rw [World.size_alloc] at this
    exact this
  · have := World.cell?_alloc_new ((w.alloc (.cells #[.pointer (some ⟨t, 0, none⟩)] 23)).alloc (.cells #[.string u] 9)) #[.int .i64 v] 3 0
    rw [World.size_alloc, World.size_alloc] at this
    exact this
/-- Why's own memory between two rounds. -/
structure Wy (w : World) (g8 g10 g12 g13 : Nat) (a : Option Addr) (n c : Nat) (ln : List ByteArray) (f : Bool) (z : Bd) (gz : Nat) (W : World) : Prop where
  r8 : W.heap[g8]? = some (.cells #[.string ⟨#[]⟩, .string ⟨#[]⟩, .string ⟨#[]⟩, .int .i64 0] 26 (0, 0))
  l : W.heap[g10]? = some (.cells #[.slice a n c] 32 (0, 0))
  s : L.Strs W (.slice a n c) ln
  z : W.heap[g12]? = some (.cells #[.string z.p, .string z.n, .string z.s, .int .i64 z.v] 26 (0, 0))
  f : W.heap[g13]? = some (.cells #[.bool f] 4 (0, 0))
  b : Below w.heap.size w W
  le : w.heap.size ≤ g8 ∧ w.heap.size ≤ g10 ∧ w.heap.size ≤ g12 ∧ w.heap.size ≤ g13
  gs : gz ≤ W.heap.size
  sb : ∀ bb oo, a = some ⟨bb, oo, none⟩ → ln ≠ [] → bb < g10
theorem cells_same {W W' : World} {row : Option Nat} {B y : Nat} {cs : Array Value} {ty : TypeId} (hg : W.grownBy W' row) (hr : ∀ r, row = some r → B ≤ r ∧ ∃ o : Obj, W.heap[r]? = some o ∧ o.isCells = false) (h : W.heap[y]? = some (.cells cs ty (0, 0))) : W'.heap[y]? = some (.cells cs ty (0, 0)) :=
  (hg.block y (lt_of_some h) (fun e => by
    obtain ⟨_, o, ho, hc⟩ := hr y e.symm
    rw [h] at ho
    simp only [Option.some.injEq] at ho
    rw [← ho] at hc
    simp [Obj.isCells] at hc)).trans h
variable {w W W' : World} {g8 g10 g12 g13 n c gz : Nat} {a : Option Addr} {ln : List ByteArray} {f f' : Bool} {z z' : Bd}
theorem Wy.grown (h : Wy w g8 g10 g12 g13 a n c ln f z gz W) {row : Option Nat} {B : Nat} (hB : w.heap.size ≤ B) (hg : W.grownBy W' row) (hr : ∀ r, row = some r → B ≤ r ∧ ∃ o : Obj, W.heap[r]? = some o ∧ o.isCells = false) : Wy w g8 g10 g12 g13 a n c ln f z gz W' :=
  ⟨cells_same hg hr h.r8, cells_same hg hr h.l, strs_cells h.s (fun _ _ _ hc => cell_kept hc hg (fun r e => (hr r e).2)), cells_same hg hr h.z, cells_same hg hr h.f, h.b.trans ((Below.refl _ W).grown hg h.b.size (fun k e => Nat.le_trans hB (hr k e).1)), h.le, Nat.le_trans h.gs hg.size, h.sb⟩
theorem Wy.below (h : Wy w g8 g10 g12 g13 a n c ln f z gz W) (hb : Below W.heap.size W W') : Wy w g8 g10 g12 g13 a n c ln f z gz W' :=
  h.grown (B := w.heap.size) (Nat.le_refl _) (grown_of_below hb) (fun r e => by cases e)
/-- The two boxes turned. -/
theorem Wy.turn {m : Nat} (h : Wy w g8 m (m + 1) (m + 1 + 1) a n c ln f z gz W) (hk : Kept (fun y => y = m + 1 ∨ y = m + 1 + 1) W W') (h8 : g8 < m)
    (hz : W'.heap[m + 1]? = some (.cells #[.string z'.p, .string z'.n, .string z'.s, .int .i64 z'.v] 26 (0, 0))) (hf : W'.heap[m + 1 + 1]? = some (.cells #[.bool f'] 4 (0, 0))) : Wy w g8 m (m + 1) (m + 1 + 1) a n c ln f' z' gz W' := by
  refine ⟨(hk.block g8 (lt_of_some h.r8) (by omega)).trans h.r8, (hk.block m (lt_of_some h.l) (by omega)).trans h.l, ?_, hz, hf, h.b.trans (hk.below h.b.size (fun x e => by have := h.le; omega)), h.le, Nat.le_trans h.gs hk.size, h.sb⟩
  obtain ⟨a', c', e, h1, h2, h3, hc⟩ := h.s
  refine ⟨a', c', e, h1, h2, h3, fun k hk' => ?_⟩
  obtain ⟨b, off, e1, e2⟩ := hc k hk'
  simp only [Value.slice.injEq] at e
  have hlt := h.sb b off (by rw [e.1, e1]) (by intro q; rw [q] at hk'; simp at hk')
  exact ⟨b, off, e1, (World.cell?_of_block (hk.block b (block_lt_of_cell e2) (by omega))).trans e2⟩
/-- What the law asks of a round that turned just these. -/
theorem turn_keeps {m t c1 c2 c3 B : Nat} (h : Wy w g8 m (m + 1) (m + 1 + 1) a n c ln f z gz W) (hk : Kept (fun y => y = m + 1 ∨ y = m + 1 + 1) W W') (ht : t < m) (hB : m + 1 + 1 < B) (h1 : m + 1 + 1 < c1) (h2 : m + 1 + 1 < c2) (h3 : m + 1 + 1 < c3) (hc : c1 < W.heap.size ∧ c2 < W.heap.size ∧ c3 < W.heap.size) : KeepsFrom B W W' ∧ Kg t c1 c2 c3 W W' := by
  have lm := lt_of_some h.l
  refine ⟨⟨hk.size, fun k o hB' hk' _ => (hk.block k (lt_of_some hk') (by omega)).trans hk'⟩, ⟨hk.size, fun k o hk' ho => (hk.block k (lt_of_some hk') (fun e => ?_)).trans hk'⟩, fun y hy => hk.block y (by omega) (by omega)⟩
  rcases e with e | e
  · rw [e, h.z] at hk'
    simp only [Option.some.injEq] at hk'
    rw [← hk'] at ho
    simp [Obj.isWalk] at ho
  · rw [e, h.f] at hk'
    simp only [Option.some.injEq] at hk'
    rw [← hk'] at ho
    simp [Obj.isWalk] at ho
theorem set4 {W : World} {g : Nat} {a b c d a' b' c' d' : Value} {ty : TypeId} (h : W.heap[g]? = some (.cells #[a, b, c, d] ty (0, 0))) : ((((W.setCell ⟨g, 0, none⟩ a').setCell ⟨g, 1, none⟩ b').setCell ⟨g, 2, none⟩ c').setCell ⟨g, 3, none⟩ d').heap[g]? = some (.cells #[a', b', c', d'] ty (0, 0)) := by
  rw [heap_setCell_same _ _ _ _ _ _ (heap_setCell_same _ _ _ _ _ _ (heap_setCell_same _ _ _ _ _ _ (heap_setCell_same _ _ _ _ _ _ h)))]
  rfl
theorem results_cell1 {fn : Func} {p u : Tmp} {ty : TypeId} (h : fn.results = #[.cell p ty, .tmp u]) (tmps : Array Value) (w : World) (ad : Addr) (x : Value)
    (hp : tmps.getD p undef = .pointer (some ad)) (hl : (loadVar ty ad).run Tryz.prog w = .ok x w) :
    (results fn tmps).run Tryz.prog w = .ok (.tuple #[x, tmps.getD u undef]) w := by
  have hp' : tmps[p]?.getD undef = .pointer (some ad) := by simpa using hp
  simp [results, h, hp', asAddr, hl, Result.andThen]
theorem load_bd {w : World} {g : Nat} {a : Array Value} (h : w.heap[g]? = some (.cells a 26 (0, 0))) (hs : a.size = 4) : (loadVar 26 ⟨g, 0, none⟩).run Tryz.prog w = .ok (.agg a) w :=
  run_loadVar_row w g _ _ _ _ _ h Tryz.underlying26 rfl (by rw [hs]; exact size_bd)
theorem five {m : Nat} (W : World) (a b c d e : Value) : Kept (fun y => y = m + 1 ∨ y = m + 1 + 1) W (((((W.setCell ⟨m + 1, 0, none⟩ a).setCell ⟨m + 1, 1, none⟩ b).setCell ⟨m + 1, 2, none⟩ c).setCell ⟨m + 1, 3, none⟩ d).setCell ⟨m + 1 + 1, 0, none⟩ e) := by
  have k : ∀ (A : World) (g i : Nat) (y : Value), (g = m + 1 ∨ g = m + 1 + 1) → Kept (fun y => y = m + 1 ∨ y = m + 1 + 1) A (A.setCell ⟨g, i, none⟩ y) := fun A g i y h => kept_set (F := fun y => y = m + 1 ∨ y = m + 1 + 1) A ⟨g, i, none⟩ y h
  exact ((((k _ _ _ _ (Or.inl rfl)).trans (k _ _ _ _ (Or.inl rfl)) (fun _ _ e => e)).trans (k _ _ _ _ (Or.inl rfl)) (fun _ _ e => e)).trans (k _ _ _ _ (Or.inl rfl)) (fun _ _ e => e)).trans (k _ _ _ _ (Or.inr rfl)) (fun _ _ e => e)
theorem Wy.five {m : Nat} (h : Wy w g8 m (m + 1) (m + 1 + 1) a n c ln f z gz W) (h8 : g8 < m) (xp xn xs : ByteArray) (xv : Int) : Wy w g8 m (m + 1) (m + 1 + 1) a n c ln true ⟨xp, xn, xs, xv⟩ gz (((((W.setCell ⟨m + 1, 0, none⟩ (.string xp)).setCell ⟨m + 1, 1, none⟩ (.string xn)).setCell ⟨m + 1, 2, none⟩ (.string xs)).setCell ⟨m + 1, 3, none⟩ (.int .i64 xv)).setCell ⟨m + 1 + 1, 0, none⟩ (.bool true)) := by
  have ne : m + 1 ≠ m + 1 + 1 := by omega
  have ne' : m + 1 + 1 ≠ m + 1 := by omega
  refine h.turn (Ac.five W _ _ _ _ _) h8 ?_ ?_
  · rw [Below.heap_setCell _ _ _ _ ne]
    exact set4 h.z
  · rw [heap_setCell_same _ _ _ _ _ _ (show (((((W.setCell ⟨m + 1, 0, none⟩ (.string xp)).setCell ⟨m + 1, 1, none⟩ (.string xn)).setCell ⟨m + 1, 2, none⟩ (.string xs)).setCell ⟨m + 1, 3, none⟩ (.int .i64 xv))).heap[m + 1 + 1]? = some (.cells #[.bool f] 4 (0, 0)) by rw [Below.heap_setCell _ _ _ _ ne', Below.heap_setCell _ _ _ _ ne', Below.heap_setCell _ _ _ _ ne', Below.heap_setCell _ _ _ _ ne']; exact h.f)]
    rfl
set_option maxHeartbeats 8000000 in
set_option maxRecDepth 100000 in
theorem why_any (u : ByteArray) (v : Int) (path : ByteArray) (w : World) (t b nn : Nat) (D : DataW Unit) (H : Ta w t b nn D) :
    Calls Tryz.prog 31 #[.pointer (some ⟨t, 0, none⟩), .string u, .int .i64 v, .string path] w fun e w' => ∃ xs, (∀ x, x ∈ xs ↔ InD D x ∧ isB x.s x.v u v = true) ∧ e = .returned (.tuple #[(fol (lineP path) xs).2.val, .bool (fol (lineP path) xs).1]) ∧ Below w.heap.size w w' := by
  refine (callsIn_wide (n := 8)).1 ?_
  refine callsIn_of_wp_marks Tryz.func31 rfl trivial ?_ rfl
  simp only [Tryz.ntmps31, List.size_toArray, List.length_cons, List.length_nil, Nat.reduceAdd, Nat.reduceSub, Array.replicate_succ, Array.replicate_zero, List.push_toArray, List.append_toArray, List.nil_append, List.cons_append]
  obtain ⟨X, hX⟩ : ∃ X, X = w.alloc (.cells #[.string ⟨#[]⟩, .string ⟨#[]⟩, .string ⟨#[]⟩, .int .i64 0] 26) := ⟨_, rfl⟩
  obtain ⟨g8, hg8⟩ : ∃ g, g = w.heap.size := ⟨_, rfl⟩
  have AX : Hid (Below w.heap.size w X ∧ X.heap[g8]? = some (.cells #[.string ⟨#[]⟩, .string ⟨#[]⟩, .string ⟨#[]⟩, .int .i64 0] 26 (0, 0))) := Lib.hid ⟨by rw [hX]; exact (Below.refl _ _).alloc (Nat.le_refl _) _, by rw [hX, hg8, heap_alloc_new]⟩
  have LA := Lib.hid (line_all path X (H.hm.below AX.out.1))
  have HH := Lib.hid H
  have G8 := Lib.hid hg8
  have hX' := hX.symm
  have hg8' := hg8.symm
  clear hX H hg8
  gi_wp2_with fail
  rename_i aa
  refine ⟨trivial, (callsIn_wide.2 LA.out).mono ?_⟩
  rintro e w1 ⟨a, n, c, rfl, hs, hb⟩
  have S1 := Lib.hid (And.intro hs hb)
  clear hs hb hX' hg8'
  gi_wp2_with fail
  obtain ⟨Y3, hY3⟩ : ∃ Y, Y = ((w1.alloc (.cells #[.slice a n c] 32)).alloc (.cells #[.string ⟨#[]⟩, .string ⟨#[]⟩, .string ⟨#[]⟩, .int .i64 0] 26)).alloc (.cells #[.bool false] 4) := ⟨_, rfl⟩
  obtain ⟨m, hm⟩ : ∃ m, m = w1.heap.size := ⟨_, rfl⟩
  rw [← hY3, ← hm]
  have BY : Hid (Below w1.heap.size w1 Y3 ∧ Y3.heap.size = m + 3 ∧ Y3.heap[m]? = some (.cells #[.slice a n c] 32 (0, 0)) ∧ Y3.heap[m + 1]? = some (.cells #[.string ⟨#[]⟩, .string ⟨#[]⟩, .string ⟨#[]⟩, .int .i64 0] 26 (0, 0)) ∧ Y3.heap[m + 1 + 1]? = some (.cells #[.bool false] 4 (0, 0))) := Lib.hid (by
    rw [hY3, hm]
    refine ⟨(((Below.refl _ w1).alloc (Nat.le_refl _) _).alloc (by simp) _).alloc (by simp; omega) _, by simp, ?_, ?_, ?_⟩
    · rw [Below.heap_alloc _ _ _ (by simp; omega), Below.heap_alloc _ _ _ (by simp), heap_alloc_new]
    · rw [Below.heap_alloc _ _ _ (by simp)]
      have := heap_alloc_new (w1.alloc (.cells #[.slice a n c] 32)) (.cells #[.string ⟨#[]⟩, .string ⟨#[]⟩, .string ⟨#[]⟩, .int .i64 0] 26)
      rw [World.size_alloc] at this
      exact this
    · have := heap_alloc_new ((w1.alloc (.cells #[.slice a n c] 32)).alloc (.cells #[.string ⟨#[]⟩, .string ⟨#[]⟩, .string ⟨#[]⟩, .int .i64 0] 26)) (.cells #[.bool false] 4)
      rw [World.size_alloc, World.size_alloc] at this
      exact this)
  have MM := Lib.hid hm
  clear hY3 hm
  refine ⟨trivial, (callsIn_wide.2 (giving_any t u v Y3)).mono ?_⟩
  rintro e w2 ⟨rfl, rfl⟩
  unfold gF
  obtain ⟨cy, hcy⟩ : ∃ cy, cy = Y3.heap.size := ⟨_, rfl⟩
  obtain ⟨G, hG⟩ : ∃ G, G = gW Y3 t u v := ⟨_, rfl⟩
  rw [← hG, ← hcy]
  have GG : Hid (Below Y3.heap.size Y3 G ∧ G.heap.size = cy + 3 ∧ cy = Y3.heap.size ∧ (G.cell? ⟨cy, 0, none⟩ = some (.pointer (some ⟨t, 0, none⟩)) ∧ G.cell? ⟨cy + 1, 0, none⟩ = some (.string u) ∧ G.cell? ⟨cy + 1 + 1, 0, none⟩ = some (.int .i64 v))) := Lib.hid (by
    rw [hG, hcy]
    exact ⟨gW_below _ _ _ _, gW_size _ _ _ _, rfl, gW_cells _ _ _ _⟩)
  clear hG hcy
  have BG : Hid (Below w.heap.size w G ∧ Tb G t b nn D ∧ w.heap.size ≤ m ∧ g8 < m ∧ t < w.heap.size ∧ b < w.heap.size ∧ m + 3 = cy) := Lib.hid (by
    have b1 : Below w.heap.size w w1 := AX.out.1.trans (S1.out.2.mono AX.out.1.size)
    have b2 : Below w.heap.size w Y3 := b1.trans (BY.out.1.mono b1.size)
    have b3 : Below w.heap.size w G := b2.trans (GG.out.1.mono b2.size)
    have s1 := S1.out.2.size
    have s0 := lt_of_some AX.out.2
    exact ⟨b3, HH.out.tb.below b3, by rw [MM.out]; exact b1.size, by rw [MM.out]; omega, lt_of_some HH.out.tb.t, HH.out.tb.m.lt, by rw [GG.out.2.2.1, BY.out.2.1]⟩)
  have I0 : Hid (Wy w g8 m (m + 1) (m + 1 + 1) a n c (lineP path) (fol (lineP path) []).1 (fol (lineP path) []).2 G.heap.size G) := Lib.hid (by
    have b1 := BY.out.1
    have b2 : Below w1.heap.size w1 G := b1.trans (GG.out.1.mono b1.size)
    have bx : Below X.heap.size X G := S1.out.2.trans (b2.mono S1.out.2.size)
    have q := BG.out
    refine ⟨(bx.block g8 (lt_of_some AX.out.2)).trans AX.out.2, (GG.out.1.block _ (lt_of_some BY.out.2.2.1)).trans BY.out.2.2.1, S1.out.1.below b2, (GG.out.1.block _ (lt_of_some BY.out.2.2.2.1)).trans BY.out.2.2.2.1, (GG.out.1.block _ (lt_of_some BY.out.2.2.2.2)).trans BY.out.2.2.2.2, q.1, by have := G8.out; omega, Nat.le_refl _, fun bb oo e hne => ?_⟩
    obtain ⟨a', c', e', _, _, _, hc⟩ := S1.out.1
    simp only [Value.slice.injEq] at e'
    obtain ⟨b0, o0, e0, h0⟩ := hc 0 (List.length_pos_iff.2 hne)
    rw [← e'.1, e] at e0
    simp only [Option.some.injEq, Addr.mk.injEq, and_true] at e0
    rw [MM.out, e0.1]
    exact block_lt_of_cell h0)
  gi_wp2_with fail
  refine wpIn_rangeFunc_ownH (α := Bd) rfl (by decide) (gf := 40) (lb := #[.pointer (some ⟨cy, 0, none⟩), .pointer (some ⟨cy + 1, 0, none⟩), .pointer (some ⟨cy + 1 + 1, 0, none⟩)]) rfl trivial (enters_of Tryz.func40 (by kernel_rfl) rfl)
    (giv1 7 (by decide) t b nn cy (cy + 1) (cy + 1 + 1) D u v G BG.out.2.1 GG.out.2.2.2.1 GG.out.2.2.2.2.1 GG.out.2.2.2.2.2) (fun h k => ⟨h.1.trans k.1, fun y hy => (k.2 y hy).trans (h.2 y hy)⟩) ?hKb (Below.refl _ _) (fun _ => rfl)
    (fun pre W => Wy w g8 m (m + 1) (m + 1 + 1) a n c (lineP path) (fol (lineP path) pre).1 (fol (lineP path) pre).2 G.heap.size W) (fun _ _ _ => False) ?hI (fun _ _ _ _ _ hs _ _ => hs) I0.out
    (fun x a' W => ∃ Bx, G.heap.size ≤ Bx ∧ W.heap[Bx]? = some (.cells #[.string x.p, .string x.n, .string x.s, .int .i64 x.v] 26 (0, 0)) ∧ a' = { tmps := #[.pointer (some ⟨t, 0, none⟩), .string u, .int .i64 v, .string path, undef, undef, undef, undef, .pointer (some ⟨g8, 0, none⟩), .bool false, .pointer (some ⟨m, 0, none⟩), .int .i64 (L.splitE path), .pointer (some ⟨m + 1, 0, none⟩), .pointer (some ⟨m + 1 + 1, 0, none⟩), .pointer (some ⟨Bx, 0, none⟩), .tuple #[.slice a n c, .int .i64 (L.splitE path)], .string path, .tuple #[.slice a n c, .int .i64 (L.splitE path)], .slice a n c, .int .i64 (L.splitE path), .pointer (some ⟨t, 0, none⟩), .string u, .int .i64 v, .func (.func 40) #[] #[.pointer (some ⟨cy, 0, none⟩), .pointer (some ⟨cy + 1, 0, none⟩), .pointer (some ⟨cy + 1 + 1, 0, none⟩)], x.val, undef, undef, undef, undef, undef, undef, undef, undef, undef, undef, undef, undef, undef, undef, undef, undef], defers := [] }) ?hAx ?assign ?body ?done ?stop
  case hKb =>
    intro W l o o' hl ho hc hw
    have q := BG.out
    have q2 := GG.out.2.1
    refine ⟨⟨by simp [World.putObj], fun k ob hk hwk => ?_⟩, fun y hy => World.putObj_heap_other (by omega)⟩
    by_cases e : k = l
    · rw [e, ho] at hk
      simp only [Option.some.injEq] at hk
      rw [hk, hwk] at hw
      simp at hw
    · exact (World.putObj_heap_other e).trans hk
  case hI =>
    intro pre W W' row hs hg hr
    exact hs.grown (by have := BG.out.1.size; exact this) hg hr
  case hAx =>
    rintro x a' _ W W' row ⟨Bx, h1, h2, h3⟩ hg hr
    exact ⟨Bx, h1, cells_same hg hr h2, h3⟩
  case assign =>
    rintro l pre ⟨xp, xn, xs, xv⟩ W K hi hK
    unfold Bd.val
    have HK := Lib.hid hK
    have HI := Lib.hid hi
    clear hK hi
    gi_wp2
    have bl : Below W.heap.size W (W.alloc (.cells #[.string xp, .string xn, .string xs, .int .i64 xv] 26)) := (Below.refl _ W).alloc (Nat.le_refl _) _
    have q := BG.out
    have q2 := GG.out.2.1
    have q3 := HI.out.gs
    refine HK.out _ _ ((KeepsOthers.alloc _ _).from _) ⟨KeepsWalks.alloc _ _, fun y hy => bl.block y ?_⟩ (HI.out.below bl) ⟨W.heap.size, q3, by rw [heap_alloc_new], rfl⟩
    have := q.1.size
    omega
  case body =>
    rintro l pre ⟨xp, xn, xs, xv⟩ a' W hl ⟨r, hr⟩ hi ⟨Bx, hBx, bX, rfl⟩ hlt
    have HI := Lib.hid hi
    have HX : Hid (W.heap[Bx]? = some (.cells #[.string xp, .string xn, .string xs, .int .i64 xv] 26 (0, 0))) := Lib.hid bX
    have CT := Lib.hid (contains_any a n c (lineP path) xp W hi.s)
    obtain ⟨fo, hfo⟩ : ∃ fo, fo = (fol (lineP path) pre).1 := ⟨_, rfl⟩
    obtain ⟨⟨zp, zn, zs, zv⟩, hzo⟩ : ∃ zo, zo = (fol (lineP path) pre).2 := ⟨_, rfl⟩
    rw [← hfo, ← hzo] at HI
    have FS : Hid (fol (lineP path) (pre ++ [⟨xp, xn, xs, xv⟩]) = stp (lineP path) (fo, ⟨zp, zn, zs, zv⟩) ⟨xp, xn, xs, xv⟩) := Lib.hid (by rw [fol_snoc, hfo, hzo])
    have NE := Lib.hid (nearer_any ⟨xp, xn, xs, xv⟩ ⟨zp, zn, zs, zv⟩ W)
    clear hi bX hl hr hfo hzo hlt
    have k10 : W.cell? ⟨m, 0, none⟩ = some (.slice a n c) := by rw [cell_of_row _ _ _ _ _ _ HI.out.l]; rfl
    have x0 : W.cell? ⟨Bx, 0, none⟩ = some (.string xp) := by rw [cell_of_row _ _ _ _ _ _ HX.out]; rfl
    have x1 : W.cell? ⟨Bx, 1, none⟩ = some (.string xn) := by rw [cell_of_row _ _ _ _ _ _ HX.out]; rfl
    have x2 : W.cell? ⟨Bx, 2, none⟩ = some (.string xs) := by rw [cell_of_row _ _ _ _ _ _ HX.out]; rfl
    have x3 : W.cell? ⟨Bx, 3, none⟩ = some (.int .i64 xv) := by rw [cell_of_row _ _ _ _ _ _ HX.out]; rfl
    have z0 : W.cell? ⟨m + 1, 0, none⟩ = some (.string zp) := by rw [cell_of_row _ _ _ _ _ _ HI.out.z]; rfl
    have z1 : W.cell? ⟨m + 1, 1, none⟩ = some (.string zn) := by rw [cell_of_row _ _ _ _ _ _ HI.out.z]; rfl
    have z2 : W.cell? ⟨m + 1, 2, none⟩ = some (.string zs) := by rw [cell_of_row _ _ _ _ _ _ HI.out.z]; rfl
    have z3 : W.cell? ⟨m + 1, 3, none⟩ = some (.int .i64 zv) := by rw [cell_of_row _ _ _ _ _ _ HI.out.z]; rfl
    have y0 : W.cell? ⟨m + 1 + 1, 0, none⟩ = some (.bool fo) := by rw [cell_of_row _ _ _ _ _ _ HI.out.f]; rfl
    unfold Bd.val
    have GE : Hid (∀ Wz f9 z9, Wy w g8 m (m + 1) (m + 1 + 1) a n c (lineP path) f9 z9 G.heap.size Wz → ∀ W9, Kept (fun y => y = m + 1 ∨ y = m + 1 + 1) Wz W9 → KeepsFrom G.heap.size Wz W9 ∧ Kg t cy (cy + 1) (cy + 1 + 1) Wz W9) := Lib.hid (fun Wz f9 z9 h W9 hk => by
      have q := BG.out
      have q2 := GG.out.2.1
      have q3 := h.gs
      exact turn_keeps h hk (by omega) (by omega) (by omega) (by omega) (by omega) (by omega))
    gi_wp2_with fail
    refine ⟨trivial, (CallsIn.inRound l (callsIn_wide.2 CT.out)).mono ?_⟩
    rintro e W1 ⟨rfl, hw1⟩
    subst hw1
    cases hcn : Lib.containsS (lineP path) xp with
    | false =>
      have FE : Hid (fol (lineP path) (pre ++ [⟨xp, xn, xs, xv⟩]) = (fo, ⟨zp, zn, zs, zv⟩)) := Lib.hid (by rw [FS.out]; unfold stp; simp [hcn])
      have END : Hid (KeepsFrom G.heap.size W1 W1 ∧ Kg t cy (cy + 1) (cy + 1 + 1) W1 W1 ∧ Wy w g8 m (m + 1) (m + 1 + 1) a n c (lineP path) (fol (lineP path) (pre ++ [⟨xp, xn, xs, xv⟩])).1 (fol (lineP path) (pre ++ [⟨xp, xn, xs, xv⟩])).2 G.heap.size W1) := Lib.hid (by
        obtain ⟨e1, e2⟩ := GE.out W1 _ _ HI.out W1 (Kept.refl _ _)
        rw [FE.out]
        exact ⟨e1, e2, HI.out⟩)
      gi_wp2
      any_goals (exfalso; rename_i h1 h2; exact absurd h1 (by simp [undef]))
      refine ⟨trivial, ?_⟩
      gi_wp2
      exact END.out
    | true =>
      cases fo with
      | false =>
        have FE : Hid (fol (lineP path) (pre ++ [⟨xp, xn, xs, xv⟩]) = (true, ⟨xp, xn, xs, xv⟩)) := Lib.hid (by rw [FS.out]; unfold stp; simp [hcn])
        have HJ := HI
        have q0 : W1.frozen? ⟨m + 1, 0, none⟩ = false := frozen_of_row _ _ _ _ _ HJ.out.z
        have q1 : W1.frozen? ⟨m + 1, 1, none⟩ = false := frozen_of_row _ _ _ _ _ HJ.out.z
        have q2 : W1.frozen? ⟨m + 1, 2, none⟩ = false := frozen_of_row _ _ _ _ _ HJ.out.z
        have q3 : W1.frozen? ⟨m + 1, 3, none⟩ = false := frozen_of_row _ _ _ _ _ HJ.out.z
        have q4 : W1.frozen? ⟨m + 1 + 1, 0, none⟩ = false := frozen_of_row _ _ _ _ _ HJ.out.f
        have q5 : ((((W1.setCell ⟨m + 1, 0, none⟩ (.string xp)).setCell ⟨m + 1, 1, none⟩ (.string xn)).setCell ⟨m + 1, 2, none⟩ (.string xs)).setCell ⟨m + 1, 3, none⟩ (.int .i64 xv)).cell? ⟨m + 1 + 1, 0, none⟩ = some (.bool false) := by
          rw [World.cell?_of_block (Below.heap_setCell _ _ _ _ (show m + 1 + 1 ≠ m + 1 by omega)), World.cell?_of_block (Below.heap_setCell _ _ _ _ (show m + 1 + 1 ≠ m + 1 by omega)), World.cell?_of_block (Below.heap_setCell _ _ _ _ (show m + 1 + 1 ≠ m + 1 by omega)), World.cell?_of_block (Below.heap_setCell _ _ _ _ (show m + 1 + 1 ≠ m + 1 by omega))]
          rw [cell_of_row _ _ _ _ _ _ HJ.out.f]; rfl
        have END : Hid (KeepsFrom G.heap.size W1 (((((W1.setCell ⟨m + 1, 0, none⟩ (.string xp)).setCell ⟨m + 1, 1, none⟩ (.string xn)).setCell ⟨m + 1, 2, none⟩ (.string xs)).setCell ⟨m + 1, 3, none⟩ (.int .i64 xv)).setCell ⟨m + 1 + 1, 0, none⟩ (.bool true)) ∧ Kg t cy (cy + 1) (cy + 1 + 1) W1 (((((W1.setCell ⟨m + 1, 0, none⟩ (.string xp)).setCell ⟨m + 1, 1, none⟩ (.string xn)).setCell ⟨m + 1, 2, none⟩ (.string xs)).setCell ⟨m + 1, 3, none⟩ (.int .i64 xv)).setCell ⟨m + 1 + 1, 0, none⟩ (.bool true)) ∧ Wy w g8 m (m + 1) (m + 1 + 1) a n c (lineP path) (fol (lineP path) (pre ++ [⟨xp, xn, xs, xv⟩])).1 (fol (lineP path) (pre ++ [⟨xp, xn, xs, xv⟩])).2 G.heap.size (((((W1.setCell ⟨m + 1, 0, none⟩ (.string xp)).setCell ⟨m + 1, 1, none⟩ (.string xn)).setCell ⟨m + 1, 2, none⟩ (.string xs)).setCell ⟨m + 1, 3, none⟩ (.int .i64 xv)).setCell ⟨m + 1 + 1, 0, none⟩ (.bool true))) := Lib.hid (by
          obtain ⟨e1, e2⟩ := GE.out W1 _ _ HI.out _ (five W1 (.string xp) (.string xn) (.string xs) (.int .i64 xv) (.bool true))
          rw [FE.out]
          exact ⟨e1, e2, HI.out.five BG.out.2.2.2.1 xp xn xs xv⟩)
        gi_wp2
        refine ⟨trivial, ?_⟩
        gi_wp2
        exact END.out
      | true =>
        unfold Bd.val at NE
        simp only at NE
        gi_wp2_with fail
        refine ⟨trivial, (CallsIn.inRound l (callsIn_wide.2 NE.out)).mono ?_⟩
        rintro e W2 ⟨rfl, hb2⟩
        have HJ := Lib.hid (HI.out.below hb2)
        have XB : Hid (W2.heap[Bx]? = some (.cells #[.string xp, .string xn, .string xs, .int .i64 xv] 26 (0, 0))) := Lib.hid ((hb2.block Bx (lt_of_some HX.out)).trans HX.out)
        have KB : Hid (Kept (fun y => y = m + 1 ∨ y = m + 1 + 1) W1 W2) := Lib.hid (Below.kept hb2 _)
        clear hb2 k10 x0 x1 x2 x3 z0 z1 z2 z3 y0
        have x0 : W2.cell? ⟨Bx, 0, none⟩ = some (.string xp) := by rw [cell_of_row _ _ _ _ _ _ XB.out]; rfl
        have x1 : W2.cell? ⟨Bx, 1, none⟩ = some (.string xn) := by rw [cell_of_row _ _ _ _ _ _ XB.out]; rfl
        have x2 : W2.cell? ⟨Bx, 2, none⟩ = some (.string xs) := by rw [cell_of_row _ _ _ _ _ _ XB.out]; rfl
        have x3 : W2.cell? ⟨Bx, 3, none⟩ = some (.int .i64 xv) := by rw [cell_of_row _ _ _ _ _ _ XB.out]; rfl
        have z0 : W2.cell? ⟨m + 1, 0, none⟩ = some (.string zp) := by rw [cell_of_row _ _ _ _ _ _ HJ.out.z]; rfl
        have z1 : W2.cell? ⟨m + 1, 1, none⟩ = some (.string zn) := by rw [cell_of_row _ _ _ _ _ _ HJ.out.z]; rfl
        have z2 : W2.cell? ⟨m + 1, 2, none⟩ = some (.string zs) := by rw [cell_of_row _ _ _ _ _ _ HJ.out.z]; rfl
        have z3 : W2.cell? ⟨m + 1, 3, none⟩ = some (.int .i64 zv) := by rw [cell_of_row _ _ _ _ _ _ HJ.out.z]; rfl
        cases hnb : nearB ⟨xp, xn, xs, xv⟩ ⟨zp, zn, zs, zv⟩ with
        | false =>
          have FE : Hid (fol (lineP path) (pre ++ [⟨xp, xn, xs, xv⟩]) = (true, ⟨zp, zn, zs, zv⟩)) := Lib.hid (by rw [FS.out]; unfold stp; simp [hcn, hnb])
          have END : Hid (KeepsFrom G.heap.size W1 W2 ∧ Kg t cy (cy + 1) (cy + 1 + 1) W1 W2 ∧ Wy w g8 m (m + 1) (m + 1 + 1) a n c (lineP path) (fol (lineP path) (pre ++ [⟨xp, xn, xs, xv⟩])).1 (fol (lineP path) (pre ++ [⟨xp, xn, xs, xv⟩])).2 G.heap.size W2) := Lib.hid (by
            obtain ⟨e1, e2⟩ := GE.out W1 _ _ HI.out W2 KB.out
            rw [FE.out]
            exact ⟨e1, e2, HJ.out⟩)
          gi_wp2
          exact END.out
        | true =>
          have FE : Hid (fol (lineP path) (pre ++ [⟨xp, xn, xs, xv⟩]) = (true, ⟨xp, xn, xs, xv⟩)) := Lib.hid (by rw [FS.out]; unfold stp; simp [hcn, hnb])
          have q0 : W2.frozen? ⟨m + 1, 0, none⟩ = false := frozen_of_row _ _ _ _ _ HJ.out.z
          have q1 : W2.frozen? ⟨m + 1, 1, none⟩ = false := frozen_of_row _ _ _ _ _ HJ.out.z
          have q2 : W2.frozen? ⟨m + 1, 2, none⟩ = false := frozen_of_row _ _ _ _ _ HJ.out.z
          have q3 : W2.frozen? ⟨m + 1, 3, none⟩ = false := frozen_of_row _ _ _ _ _ HJ.out.z
          have q4 : W2.frozen? ⟨m + 1 + 1, 0, none⟩ = false := frozen_of_row _ _ _ _ _ HJ.out.f
          have q5 : ((((W2.setCell ⟨m + 1, 0, none⟩ (.string xp)).setCell ⟨m + 1, 1, none⟩ (.string xn)).setCell ⟨m + 1, 2, none⟩ (.string xs)).setCell ⟨m + 1, 3, none⟩ (.int .i64 xv)).cell? ⟨m + 1 + 1, 0, none⟩ = some (.bool true) := by
            rw [World.cell?_of_block (Below.heap_setCell _ _ _ _ (show m + 1 + 1 ≠ m + 1 by omega)), World.cell?_of_block (Below.heap_setCell _ _ _ _ (show m + 1 + 1 ≠ m + 1 by omega)), World.cell?_of_block (Below.heap_setCell _ _ _ _ (show m + 1 + 1 ≠ m + 1 by omega)), World.cell?_of_block (Below.heap_setCell _ _ _ _ (show m + 1 + 1 ≠ m + 1 by omega))]
            rw [cell_of_row _ _ _ _ _ _ HJ.out.f]; rfl
          have END : Hid (KeepsFrom G.heap.size W1 (((((W2.setCell ⟨m + 1, 0, none⟩ (.string xp)).setCell ⟨m + 1, 1, none⟩ (.string xn)).setCell ⟨m + 1, 2, none⟩ (.string xs)).setCell ⟨m + 1, 3, none⟩ (.int .i64 xv)).setCell ⟨m + 1 + 1, 0, none⟩ (.bool true)) ∧ Kg t cy (cy + 1) (cy + 1 + 1) W1 (((((W2.setCell ⟨m + 1, 0, none⟩ (.string xp)).setCell ⟨m + 1, 1, none⟩ (.string xn)).setCell ⟨m + 1, 2, none⟩ (.string xs)).setCell ⟨m + 1, 3, none⟩ (.int .i64 xv)).setCell ⟨m + 1 + 1, 0, none⟩ (.bool true)) ∧ Wy w g8 m (m + 1) (m + 1 + 1) a n c (lineP path) (fol (lineP path) (pre ++ [⟨xp, xn, xs, xv⟩])).1 (fol (lineP path) (pre ++ [⟨xp, xn, xs, xv⟩])).2 G.heap.size (((((W2.setCell ⟨m + 1, 0, none⟩ (.string xp)).setCell ⟨m + 1, 1, none⟩ (.string xn)).setCell ⟨m + 1, 2, none⟩ (.string xs)).setCell ⟨m + 1, 3, none⟩ (.int .i64 xv)).setCell ⟨m + 1 + 1, 0, none⟩ (.bool true))) := Lib.hid (by
            obtain ⟨e1, e2⟩ := GE.out W1 _ _ HI.out _ (KB.out.trans (five W2 (.string xp) (.string xn) (.string xs) (.int .i64 xv) (.bool true)) (fun _ _ e => e))
            rw [FE.out]
            exact ⟨e1, e2, HJ.out.five BG.out.2.2.2.1 xp xn xs xv⟩)
          gi_wp2
          exact END.out
  case done =>
    rintro D' ys W hD hS hi hK
    have HI := Lib.hid hi
    have HS := Lib.hid hS
    have HD : Hid (G.heap.size ≤ D' ∧ W.heap[D']? = some (.deferred (some []))) := Lib.hid ⟨hD, hK⟩
    obtain ⟨fo, hfo⟩ : ∃ fo, fo = (fol (lineP path) ys).1 := ⟨_, rfl⟩
    obtain ⟨⟨zp, zn, zs, zv⟩, hzo⟩ : ∃ zo, zo = (fol (lineP path) ys).2 := ⟨_, rfl⟩
    have FO : Hid (fo = (fol (lineP path) ys).1 ∧ (⟨zp, zn, zs, zv⟩ : Bd) = (fol (lineP path) ys).2) := Lib.hid ⟨hfo, hzo⟩
    rw [← hfo, ← hzo] at HI
    clear hi hS hD hK hfo hzo
    have z0 : W.cell? ⟨m + 1, 0, none⟩ = some (.string zp) := by rw [cell_of_row _ _ _ _ _ _ HI.out.z]; rfl
    have z1 : W.cell? ⟨m + 1, 1, none⟩ = some (.string zn) := by rw [cell_of_row _ _ _ _ _ _ HI.out.z]; rfl
    have z2 : W.cell? ⟨m + 1, 2, none⟩ = some (.string zs) := by rw [cell_of_row _ _ _ _ _ _ HI.out.z]; rfl
    have z3 : W.cell? ⟨m + 1, 3, none⟩ = some (.int .i64 zv) := by rw [cell_of_row _ _ _ _ _ _ HI.out.z]; rfl
    have y0 : W.cell? ⟨m + 1 + 1, 0, none⟩ = some (.bool fo) := by rw [cell_of_row _ _ _ _ _ _ HI.out.f]; rfl
    have r0 : W.cell? ⟨g8, 0, none⟩ = some (.string ⟨#[]⟩) := by rw [cell_of_row _ _ _ _ _ _ HI.out.r8]; rfl
    have r1 : W.cell? ⟨g8, 1, none⟩ = some (.string ⟨#[]⟩) := by rw [cell_of_row _ _ _ _ _ _ HI.out.r8]; rfl
    have r2 : W.cell? ⟨g8, 2, none⟩ = some (.string ⟨#[]⟩) := by rw [cell_of_row _ _ _ _ _ _ HI.out.r8]; rfl
    have r3 : W.cell? ⟨g8, 3, none⟩ = some (.int .i64 0) := by rw [cell_of_row _ _ _ _ _ _ HI.out.r8]; rfl
    have q0 : W.frozen? ⟨g8, 0, none⟩ = false := frozen_of_row _ _ _ _ _ HI.out.r8
    have q1 : W.frozen? ⟨g8, 1, none⟩ = false := frozen_of_row _ _ _ _ _ HI.out.r8
    have q2 : W.frozen? ⟨g8, 2, none⟩ = false := frozen_of_row _ _ _ _ _ HI.out.r8
    have q3 : W.frozen? ⟨g8, 3, none⟩ = false := frozen_of_row _ _ _ _ _ HI.out.r8
    have nm : m + 1 + 1 ≠ g8 := by have := BG.out.2.2.2.1; omega
    have w0 : ((((W.setCell ⟨g8, 0, none⟩ (.string zp)).setCell ⟨g8, 1, none⟩ (.string zn)).setCell ⟨g8, 2, none⟩ (.string zs)).setCell ⟨g8, 3, none⟩ (.int .i64 zv)).drew.cell? ⟨m + 1 + 1, 0, none⟩ = some (.bool fo) := by
      show ((((W.setCell ⟨g8, 0, none⟩ (.string zp)).setCell ⟨g8, 1, none⟩ (.string zn)).setCell ⟨g8, 2, none⟩ (.string zs)).setCell ⟨g8, 3, none⟩ (.int .i64 zv)).cell? ⟨m + 1 + 1, 0, none⟩ = some (.bool fo)
      rw [World.cell?_of_block (Below.heap_setCell _ _ _ _ nm), World.cell?_of_block (Below.heap_setCell _ _ _ _ nm), World.cell?_of_block (Below.heap_setCell _ _ _ _ nm), World.cell?_of_block (Below.heap_setCell _ _ _ _ nm)]
      exact y0
    have y1 : W.drew.cell? ⟨m + 1 + 1, 0, none⟩ = some (.bool fo) := y0
    clear nm
    gi_wp2_with fail
    gi_region
    obtain ⟨V, hV⟩ : ∃ V, V = ((((W.setCell ⟨g8, 0, none⟩ (.string zp)).setCell ⟨g8, 1, none⟩ (.string zn)).setCell ⟨g8, 2, none⟩ (.string zs)).setCell ⟨g8, 3, none⟩ (.int .i64 zv)).drew := ⟨_, rfl⟩
    rw [← hV]
    have HV : Hid (V.heap[D']? = some (.deferred (some [])) ∧ V.heap[g8]? = some (.cells #[.string zp, .string zn, .string zs, .int .i64 zv] 26 (0, 0)) ∧ Below w.heap.size w V) := Lib.hid (by
      have nd : D' ≠ g8 := by have := HD.out.1; have := BG.out; have := GG.out.2.1; omega
      rw [hV]
      refine ⟨?_, set4 HI.out.r8, ?_⟩
      · show ((((W.setCell ⟨g8, 0, none⟩ (.string zp)).setCell ⟨g8, 1, none⟩ (.string zn)).setCell ⟨g8, 2, none⟩ (.string zs)).setCell ⟨g8, 3, none⟩ (.int .i64 zv)).heap[D']? = _
        rw [Below.heap_setCell _ _ _ _ nd, Below.heap_setCell _ _ _ _ nd, Below.heap_setCell _ _ _ _ nd, Below.heap_setCell _ _ _ _ nd]
        exact HD.out.2
      · have h8 := HI.out.le.1
        exact ((((HI.out.b.setCell (p := ⟨g8, 0, none⟩) h8 _).setCell (p := ⟨g8, 1, none⟩) h8 _).setCell (p := ⟨g8, 2, none⟩) h8 _).setCell (p := ⟨g8, 3, none⟩) h8 _).drew)
    clear hV z0 z1 z2 z3 y0 y1 w0 r0 r1 r2 r3 q0 q1 q2 q3
    gi_wp2
    refine ⟨by simp, .inl ⟨_, _, rfl, run_takeDeferred HV.out.1, ?_⟩⟩
    have ND : g8 ≠ D' := by have := HD.out.1; have := BG.out; have := GG.out.2.1; omega
    refine ⟨_, results_cell1 rfl _ _ ⟨g8, 0, none⟩ (.agg #[.string zp, .string zn, .string zs, .int .i64 zv]) rfl (load_bd ((World.putObj_heap_other ND).trans HV.out.2.1) rfl), ys, HS.out, ?_, ?_⟩
    · rw [← FO.out.1, ← FO.out.2]
      rfl
    · exact HV.out.2.2.trans (belowK_b (w := w) (Nat.le_refl _) V D' _ _ (by have := HD.out.1; have := BG.out.1.size; omega) HV.out.1 rfl rfl)
  case stop => rintro D' c' pre W _ _ h _; exact h.elim
end Ac
end Go.Proofs.YtdhnpgciclbfeaaGreatDoor
