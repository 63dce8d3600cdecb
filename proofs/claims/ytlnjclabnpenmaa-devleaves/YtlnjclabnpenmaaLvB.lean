/-
  DevLeaves: all that the call holds: the device, the medium ahead, four lists.
-/
import Derived.Test.YtlnjclabnpenmaaLvA
import Derived.Test.YtlnjclabnpenmaaStA
namespace Go.Proofs.Ytlnjclabnpenmaa
open Go.RowKit Go.Maps
theorem info_bytes : (Try.prog.info? 29).map (fun i => (i.zero, i.size, i.bytes)) = some (some (.slice none 0 0), 1, 24) := by kernel_rfl
theorem app_blk {ops : Array Oper} {rest : List Oper} {o : Oper} {a : Act} {Q : Exit → Act → World → Prop} (hgd : o.guard = none) (s y : Operand)
    (ho : o.op = .call { callee := .builtin .append, args := #[s, y], argTypes := #[55, 55] })
    {B : Nat} {w0 : World} {v : Value} {us : List Value} (hs : a.eval s = v) (hown : w0.ownsRow B 29 1 v us.length us) (hB : B ≤ w0.heap.size) (x : Value) (hx1 : x.oneCell' = true)
    (gy : Nat) (hgy : gy = w0.heap.size) (hy : a.eval y = .slice (some ⟨gy, 0, none⟩) 1 1) (hl : us.length ≤ 20)
    (h : ∀ v' w', Hid (w'.ownsRow B 29 1 v' (us ++ [x]).length (us ++ [x]) ∧ w0.grownBy w' v.ownBlock ∧ At v v' w0) → wpList Try.prog ops Q rest (a.put o.dst v') w') :
    wpList Try.prog ops Q (o :: rest) a (w0.alloc (.cells #[x] 29)) := by
  subst hgy
  obtain ⟨i0, hi, hz0, hz1, hz2⟩ := info_parts info_bytes
  refine wpList_append_own_at _ hgd s y 55 ho B 29 i0 _ 1 24 Try.underlying55 hi hz0 hz1 hz2 rfl (by decide) v us.length us hs (World.ownsRow.alloc hown _) ⟨w0.heap.size, 0, none⟩ 1 1 [x] hy rfl ?_ ?_ (by unfold maxLen; omega) (by omega) (by simp; omega) ?_
  · intro j u hj
    rw [add_plain, Nat.zero_add, World.cell?_alloc_new, ← Array.getElem?_toList]; exact hj
  · intro v hv; simp only [List.mem_cons, List.not_mem_nil, or_false] at hv; rw [hv]; exact hx1
  · intro v' w' h1 h2 _ h3
    refine h v' w' ⟨?_, grown_alloc h2, at_of h3 (by simp)⟩
    rw [List.length_append]; exact h1
theorem app_fat {ops : Array Oper} {rest : List Oper} {o : Oper} {a : Act} {Q : Exit → Act → World → Prop} (hgd : o.guard = none) (s y : Operand)
    (ho : o.op = .call { callee := .builtin .append, args := #[s, y], argTypes := #[45, 45] })
    {B : Nat} {w0 : World} {v : Value} {fs : List (Int × Int)} (hs : a.eval s = v) (hown : w0.ownsRow B 57 2 v fs.length (cellsF fs)) (hB : B ≤ w0.heap.size) (f1 f2 : Int)
    (hy : a.eval y = .slice (some ⟨w0.heap.size, 0, none⟩) 1 1) (hl : fs.length ≤ 20)
    (h : ∀ v' w', Hid (w'.ownsRow B 57 2 v' (fs ++ [(f1, f2)]).length (cellsF (fs ++ [(f1, f2)])) ∧ w0.grownBy w' v.ownBlock ∧ At v v' w0) → wpList Try.prog ops Q rest (a.put o.dst v') w') :
    wpList Try.prog ops Q (o :: rest) a (w0.alloc (.cells #[.int .i64 f1, .int .i64 f2] 57)) := by
  obtain ⟨i0, hi, hz0, hz1, hz2⟩ := info_parts info_fate
  refine wpList_append_own_at _ hgd s y 45 ho B 57 i0 _ 2 16 Try.underlying45 hi hz0 hz1 hz2 rfl (by decide) v fs.length (cellsF fs) hs (World.ownsRow.alloc hown _) ⟨w0.heap.size, 0, none⟩ 1 1 [.int .i64 f1, .int .i64 f2] hy rfl ?_ ?_ (by unfold maxLen; omega) (by omega) (by simp; omega) ?_
  · intro j u hj
    rw [add_plain, Nat.zero_add, World.cell?_alloc_new, ← Array.getElem?_toList]; exact hj
  · intro v hv
    simp only [List.mem_cons, List.not_mem_nil, or_false] at hv
    rcases hv with rfl | rfl <;> rfl
  · intro v' w' h1 h2 _ h3
    refine h v' w' ⟨?_, grown_alloc h2, at_of h3 (by simp)⟩
    have e : cellsF (fs ++ [(f1, f2)]) = cellsF fs ++ [.int .i64 f1, .int .i64 f2] := by simp [cellsF]
    rw [e, List.length_append]; exact h1
/-- Rows of unlike types lie in unlike blocks. -/
theorem rows_ne {B B' e e' k k' n n' : Nat} {W : World} {v v' : Value} {xs xs' : List Value} (he : e ≠ e') (H : W.ownsRow B e k v n xs) (H' : W.ownsRow B' e' k' v' n' xs') : ∀ g, v.ownBlock = some g → ¬ (some g = v'.ownBlock) := by
  intro g h1 h2
  obtain ⟨c1, q1⟩ := row_block H h1
  obtain ⟨c2, q2⟩ := row_block H' h2.symm
  rw [q1] at q2
  simp at q2
  exact he q2.2
theorem foot_ne {B B' e k n : Nat} {W : World} {d mb mp : Nat} {cv v : Value} {s : DS} {xs : List Value} (h : Dv B W d mb mp cv s) (H : W.ownsRow B' e k v n xs) (h1 : e ≠ 68) (h2 : e ≠ 70) (h3 : e ≠ 72) : ∀ g, v.ownBlock = some g → ¬ Foot d mb mp cv g := by
  intro g hg hf
  obtain ⟨cur, hc⟩ := row_block H hg
  rcases hf with rfl | rfl | rfl | hf
  · rw [h.self] at hc; simp at hc; exact h1 hc.2.symm
  · rw [h.med] at hc; simp at hc; exact h2 hc.2.symm
  · obtain ⟨M, hM, _⟩ := h.latest
    obtain ⟨es, c, hm⟩ := map_block hM
    rw [hm] at hc; simp at hc
  · obtain ⟨cur2, hc2⟩ := row_block h.cache hf
    rw [hc2] at hc; simp at hc; exact h3 hc.2.symm
/-- A list of slices of bytes, all the call's own. -/
def OwnL (B : Nat) (W : World) (v : Value) (us : List Value) (ps : List (List UInt8)) : Prop := W.ownsRow B 29 1 v us.length us ∧ us.length = ps.length ∧ ∀ k u, us[k]? = some u → Own B W u (ps.getD k [])
theorem OwnL.blks {B : Nat} {W : World} {v : Value} {us : List Value} {ps : List (List UInt8)} (H : OwnL B W v us ps) : Blks W v ps := by
  obtain ⟨h, hl, hu⟩ := H
  obtain ⟨_, ⟨hv, hn⟩ | ⟨g, cap, cur, hv, hb, hg, hn, hm, hs, ht⟩⟩ := h
  · exact ⟨none, 0, by rw [hv, ← hl, hn], by omega, by decide, fun k hk => by omega⟩
  · refine ⟨_, cap, by rw [hv, hl], by omega, hm, fun k hk => ?_⟩
    have hk' : k < us.length := by omega
    refine ⟨g, 0, us[k], rfl, ?_, (hu k _ (List.getElem?_eq_getElem hk')).bytes⟩
    rw [cell_of_row W g _ cur _ _ hg, Nat.zero_add, ← Array.getElem?_toList, ← List.getElem?_take_of_lt (j := us.length * 1) (by omega), ht, List.getElem?_eq_getElem hk']
theorem OwnL.kept {F : Nat → Prop} {B : Nat} {W W' : World} {v : Value} {us : List Value} {ps : List (List UInt8)} (H : OwnL B W v us ps) (hk : Kept F W W') (hF : ∀ g, v.ownBlock = some g → ¬ F g) (hF8 : ∀ {u : Value} {p : List UInt8}, Own B W u p → ∀ g, u.ownBlock = some g → ¬ F g) : OwnL B W' v us ps :=
  ⟨row_kept H.1 hk hF, H.2.1, fun k u hu => (H.2.2 k u hu).kept hk (hF8 (H.2.2 k u hu))⟩
abbrev OwnF (B : Nat) (W : World) (v : Value) (fs : List (Int × Int)) : Prop := W.ownsRow B 57 2 v fs.length (cellsF fs)
/-- All of it. -/
structure Lq (b : Nat) (w W : World) (s : DS) (vm : Value) (M : List UInt8) (v1 v2 v3 v4 : Value) (u1 u2 : List Value) (p1 p2 : List (List UInt8)) (f1 f2 : List (Int × Int)) : Prop where
  dv : ∃ cv, Dv b W (b + 2) b (b + 1) cv s
  bel : Below b w W
  sz : b ≤ W.heap.size
  m : Own b W vm M
  l1 : OwnL b W v1 u1 p1
  l2 : OwnL b W v2 u2 p2
  l3 : OwnF b W v3 f1
  l4 : OwnF b W v4 f2
  n12 : ∀ k, v1.ownBlock = some k → ¬ some k = v2.ownBlock
  n34 : ∀ k, v3.ownBlock = some k → ¬ some k = v4.ownBlock
variable {b : Nat} {w W W' : World} {s s' : DS} {vm : Value} {M : List UInt8} {v1 v2 v3 v4 : Value} {u1 u2 : List Value} {p1 p2 : List (List UInt8)} {f1 f2 : List (Int × Int)}
theorem Lq.below (h : Lq b w W s vm M v1 v2 v3 v4 u1 u2 p1 p2 f1 f2) (hb : Below W.heap.size W W') : Lq b w W' s vm M v1 v2 v3 v4 u1 u2 p1 p2 f1 f2 := by
  obtain ⟨cv, hd⟩ := h.dv
  exact ⟨⟨cv, hd.below hb⟩, h.bel.trans (hb.mono h.sz), Nat.le_trans h.sz hb.size, h.m.below hb, ⟨owns_below h.l1.1 hb, h.l1.2.1, fun k u hu => (h.l1.2.2 k u hu).below hb⟩, ⟨owns_below h.l2.1 hb, h.l2.2.1, fun k u hu => (h.l2.2.2 k u hu).below hb⟩, owns_below h.l3 hb, owns_below h.l4 hb, h.n12, h.n34⟩
theorem Lq.dev {cv cv' : Value} (h : Lq b w W s vm M v1 v2 v3 v4 u1 u2 p1 p2 f1 f2) (hd : Dv b W (b + 2) b (b + 1) cv s) (hd' : Dv b W' (b + 2) b (b + 1) cv' s') (hk : Kept (Foot (b + 2) b (b + 1) cv) W W') : Lq b w W' s' vm M v1 v2 v3 v4 u1 u2 p1 p2 f1 f2 := by
  have q8 : ∀ {u : Value} {p : List UInt8}, Own b W u p → ∀ g, u.ownBlock = some g → ¬ Foot (b + 2) b (b + 1) cv g := fun ho => hd.bytes_ne ho
  exact ⟨⟨cv', hd'⟩, h.bel.trans (hk.below h.sz (fun x hx => (hd.foot_lt x hx).1)), Nat.le_trans h.sz hk.size, h.m.kept hk (q8 h.m), h.l1.kept hk (foot_ne hd h.l1.1 (by decide) (by decide) (by decide)) q8, h.l2.kept hk (foot_ne hd h.l2.1 (by decide) (by decide) (by decide)) q8, row_kept h.l3 hk (foot_ne hd h.l3 (by decide) (by decide) (by decide)), row_kept h.l4 hk (foot_ne hd h.l4 (by decide) (by decide) (by decide)), h.n12, h.n34⟩
theorem dv_row {B B' e k n : Nat} {d mb mp : Nat} {cv v : Value} {xs : List Value} (h : Dv B W d mb mp cv s) (H : W.ownsRow B' e k v n xs) (h1 : e ≠ 68) (h2 : e ≠ 70) (h3 : e ≠ 72) (hk : Kept (fun k => some k = v.ownBlock) W W') : Dv B W' d mb mp cv s :=
  h.kept hk (fun k hf e => foot_ne h H h1 h2 h3 k e.symm hf)
theorem ownL_snoc {B : Nat} {v v' : Value} {us : List Value} {ps : List (List UInt8)} {x : Value} {p : List UInt8} (H : OwnL B W v us ps) (hr : W'.ownsRow B 29 1 v' (us ++ [x]).length (us ++ [x])) (hx : Own B W x p) (hk : Kept (fun k => some k = v.ownBlock) W W') : OwnL B W' v' (us ++ [x]) (ps ++ [p]) := by
  refine ⟨hr, by simp [H.2.1], fun k u hu => ?_⟩
  have hl := H.2.1
  rcases Nat.lt_or_ge k us.length with h | h
  · rw [List.getElem?_append_left h] at hu
    have e : (ps ++ [p]).getD k [] = ps.getD k [] := by rw [List.getD_eq_getElem?_getD, List.getElem?_append_left (by omega), ← List.getD_eq_getElem?_getD]
    rw [e]
    exact (H.2.2 k u hu).kept hk (rows_ne (by decide) (H.2.2 k u hu) H.1)
  · rw [List.getElem?_append_right h] at hu
    have e0 : k - us.length = 0 := by
      rcases Nat.eq_zero_or_pos (k - us.length) with h0 | h0
      · exact h0
      · rw [List.getElem?_eq_none (by simp; omega)] at hu; simp at hu
    rw [e0] at hu
    simp at hu
    subst hu
    have e : (ps ++ [p]).getD k [] = p := by rw [List.getD_eq_getElem?_getD, List.getElem?_append_right (by omega), show k - ps.length = 0 by omega]; rfl
    rw [e]
    exact hx.kept hk (rows_ne (by decide) hx H.1)
theorem at_ne {v v' u : Value} (ha : At v v' W) (hn : ∀ k, v.ownBlock = some k → ¬ some k = u.ownBlock) (hu : ∀ k, u.ownBlock = some k → k < W.heap.size) : ∀ k, v'.ownBlock = some k → ¬ some k = u.ownBlock := fun k hk e => by
  rcases ha k hk.symm with h | h
  · exact hn k h.symm e
  · have := hu k e.symm; omega
theorem row_lt {B e k n : Nat} {v : Value} {xs : List Value} (H : W.ownsRow B e k v n xs) : ∀ g, v.ownBlock = some g → g < W.heap.size := fun g hg => by
  obtain ⟨cur, hc⟩ := row_block H hg
  exact lt_of_heap hc
theorem Lq.app1 {x v' : Value} {p : List UInt8} (h : Lq b w W s vm M v1 v2 v3 v4 u1 u2 p1 p2 f1 f2) (hx : Own b W x p) (hr : W'.ownsRow b 29 1 v' (u1 ++ [x]).length (u1 ++ [x])) (hg : W.grownBy W' v1.ownBlock) (ha : At v1 v' W) : Lq b w W' s vm M v' v2 v3 v4 (u1 ++ [x]) u2 (p1 ++ [p]) p2 f1 f2 := by
  obtain ⟨cv, hd⟩ := h.dv
  have hk := grown_kept hg
  exact ⟨⟨cv, dv_row hd h.l1.1 (by decide) (by decide) (by decide) hk⟩, h.bel.trans (hk.below h.sz (fun k e => (World.ownsRow.lt h.l1.1 k e.symm).1)), Nat.le_trans h.sz hk.size, h.m.kept hk (rows_ne (by decide) h.m h.l1.1), ownL_snoc h.l1 hr hx hk,
    h.l2.kept hk (fun g e1 e2 => h.n12 g e2.symm e1.symm) (fun ho => rows_ne (by decide) ho h.l1.1), row_kept h.l3 hk (rows_ne (by decide) h.l3 h.l1.1), row_kept h.l4 hk (rows_ne (by decide) h.l4 h.l1.1), at_ne ha h.n12 (row_lt h.l2.1), h.n34⟩
theorem Lq.app2 {x v' : Value} {p : List UInt8} (h : Lq b w W s vm M v1 v2 v3 v4 u1 u2 p1 p2 f1 f2) (hx : Own b W x p) (hr : W'.ownsRow b 29 1 v' (u2 ++ [x]).length (u2 ++ [x])) (hg : W.grownBy W' v2.ownBlock) (ha : At v2 v' W) : Lq b w W' s vm M v1 v' v3 v4 u1 (u2 ++ [x]) p1 (p2 ++ [p]) f1 f2 := by
  obtain ⟨cv, hd⟩ := h.dv
  have hk := grown_kept hg
  have n21 := at_ne (u := v1) ha (fun k e1 e2 => h.n12 k e2.symm e1.symm) (row_lt h.l1.1)
  exact ⟨⟨cv, dv_row hd h.l2.1 (by decide) (by decide) (by decide) hk⟩, h.bel.trans (hk.below h.sz (fun k e => (World.ownsRow.lt h.l2.1 k e.symm).1)), Nat.le_trans h.sz hk.size, h.m.kept hk (rows_ne (by decide) h.m h.l2.1),
    h.l1.kept hk h.n12 (fun ho => rows_ne (by decide) ho h.l2.1), ownL_snoc h.l2 hr hx hk, row_kept h.l3 hk (rows_ne (by decide) h.l3 h.l2.1), row_kept h.l4 hk (rows_ne (by decide) h.l4 h.l2.1), fun k e1 e2 => n21 k e2.symm e1.symm, h.n34⟩
theorem Lq.app3 {v' : Value} {f : Int × Int} (h : Lq b w W s vm M v1 v2 v3 v4 u1 u2 p1 p2 f1 f2) (hr : OwnF b W' v' (f1 ++ [f])) (hg : W.grownBy W' v3.ownBlock) (ha : At v3 v' W) : Lq b w W' s vm M v1 v2 v' v4 u1 u2 p1 p2 (f1 ++ [f]) f2 := by
  obtain ⟨cv, hd⟩ := h.dv
  have hk := grown_kept hg
  exact ⟨⟨cv, dv_row hd h.l3 (by decide) (by decide) (by decide) hk⟩, h.bel.trans (hk.below h.sz (fun k e => (World.ownsRow.lt h.l3 k e.symm).1)), Nat.le_trans h.sz hk.size, h.m.kept hk (rows_ne (by decide) h.m h.l3),
    h.l1.kept hk (rows_ne (by decide) h.l1.1 h.l3) (fun ho => rows_ne (by decide) ho h.l3), h.l2.kept hk (rows_ne (by decide) h.l2.1 h.l3) (fun ho => rows_ne (by decide) ho h.l3), hr, row_kept h.l4 hk (fun g e1 e2 => h.n34 g e2.symm e1.symm), h.n12, at_ne ha h.n34 (row_lt h.l4)⟩
theorem Lq.app4 {v' : Value} {f : Int × Int} (h : Lq b w W s vm M v1 v2 v3 v4 u1 u2 p1 p2 f1 f2) (hr : OwnF b W' v' (f2 ++ [f])) (hg : W.grownBy W' v4.ownBlock) (ha : At v4 v' W) : Lq b w W' s vm M v1 v2 v3 v' u1 u2 p1 p2 f1 (f2 ++ [f]) := by
  obtain ⟨cv, hd⟩ := h.dv
  have hk := grown_kept hg
  have n43 := at_ne (u := v3) ha (fun k e1 e2 => h.n34 k e2.symm e1.symm) (row_lt h.l3)
  exact ⟨⟨cv, dv_row hd h.l4 (by decide) (by decide) (by decide) hk⟩, h.bel.trans (hk.below h.sz (fun k e => (World.ownsRow.lt h.l4 k e.symm).1)), Nat.le_trans h.sz hk.size, h.m.kept hk (rows_ne (by decide) h.m h.l4),
    h.l1.kept hk (rows_ne (by decide) h.l1.1 h.l4) (fun ho => rows_ne (by decide) ho h.l4), h.l2.kept hk (rows_ne (by decide) h.l2.1 h.l4) (fun ho => rows_ne (by decide) ho h.l4), row_kept h.l3 hk h.n34, hr, h.n12, fun k e1 e2 => n43 k e2.symm e1.symm⟩
/-- A write to a device that is up and not armed. -/
theorem wr_up {s : DS} (ha : s.armed = false) (hd : s.down = false) (hn : s.n = 64) (i : Nat) (hi : i < 64) (p : List UInt8) (hp : p.length = 512) : wrE s (i : Int) p = (addW s i p, 0) := by
  have e : actD s = (s, 0) := by unfold actD; simp [ha, hd]
  unfold wrE
  rw [if_neg (by unfold hasB; rw [hn]; simp; omega), if_neg (by omega), e, if_neg (fun h => h rfl), Int.toNat_natCast]
theorem Lq.write (h : Lq b w W s vm M v1 v2 v3 v4 u1 u2 p1 p2 f1 f2) (ha : s.armed = false) (hdn : s.down = false) (hn : s.n = 64) (hws : s.ws ≤ 500) (i : Nat) (hi : i < 64) {B' : Nat} (x : Value) (p : List UInt8) (hx : Own B' W x p) (hp : p.length = 512) :
    Calls Try.prog 14 #[.pointer (some ⟨b + 2, 0, none⟩), .int .i64 (i : Int), x] W fun e W' => e = .returned (.int .i64 0) ∧ Lq b w W' (addW s i p) vm M v1 v2 v3 v4 u1 u2 p1 p2 f1 f2 := by
  obtain ⟨cv, hd⟩ := h.dv
  refine (write_any hd i x p (fun w' hk => (hx.kept hk (fun k hk2 e => hd.bytes_ne hx k hk2 (.inl e))).bytes) (by omega)).mono ?_
  rintro e W' ⟨cv', rfl, hd', hk, _⟩
  rw [wr_up ha hdn hn i hi p hp] at hd' ⊢
  exact ⟨rfl, h.dev hd hd' hk⟩
theorem Lq.medium (h : Lq b w W s vm M v1 v2 v3 v4 u1 u2 p1 p2 f1 f2) (hn : s.n = 64) :
    Calls Try.prog 21 #[.pointer (some ⟨b + 2, 0, none⟩)] W fun e W' => e = .returned (.slice (some ⟨W.heap.size, 0, none⟩) 32768 32768) ∧ Own b W' (.slice (some ⟨W.heap.size, 0, none⟩) 32768 32768) s.med ∧ Lq b w W' s vm M v1 v2 v3 v4 u1 u2 p1 p2 f1 f2 ∧ Below W.heap.size W W' := by
  obtain ⟨cv, hd⟩ := h.dv
  have := medium_any hd
  rw [hn] at this
  refine this.mono ?_
  rintro e W' ⟨rfl, ho, hb⟩
  exact ⟨rfl, ho.mono h.sz, h.below hb, hb⟩
theorem Lq.crash (h : Lq b w W s vm M v1 v2 v3 v4 u1 u2 p1 p2 f1 f2) (hws : s.ws ≤ 500) {B' : Nat} (v : Value) (fs : List (Int × Int)) (hv : OwnF B' W v fs) :
    Calls Try.prog 24 #[.pointer (some ⟨b + 2, 0, none⟩), v] W fun e W' => e = .returned (.int .i64 (cnts (fateAt fs) 0 s.cache)) ∧ Lq b w W' (crD s fs) vm M v1 v2 v3 v4 u1 u2 p1 p2 f1 f2 := by
  obtain ⟨cv, hd⟩ := h.dv
  refine (crash_any hd (by omega) v fs (fun w' hk => fts_own (row_kept hv hk (fun g hg e => foot_ne hd hv (by decide) (by decide) (by decide) g hg (.inr (.inl e)))))).mono ?_
  rintro e W' ⟨rfl, hd', hk⟩
  exact ⟨rfl, h.dev hd hd' (hk.mono (fun k _ h => foot3 cv k h))⟩
end Go.Proofs.Ytlnjclabnpenmaa
