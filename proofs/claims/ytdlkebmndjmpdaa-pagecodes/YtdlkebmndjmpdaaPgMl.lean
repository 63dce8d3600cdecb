/-
  marked: a copy with two marks behind each list.
-/
import Derived.Test.YtdlkebmndjmpdaaPgMk
namespace Go.Proofs.Ytdlkebmndjmpdaa
open Go.RowKit Go.Maps
theorem app_intsAG {ops : Array Oper} {rest : List Oper} {o : Oper} {a : Act} {Q : Exit → Act → World → Prop} (hgd : o.guard = none) (s x : Operand)
    (ho : o.op = .call { callee := .builtin .append, args := #[s, x], argTypes := #[23, 23] })
    {B : Nat} {w0 : World} {v : Value} {l : List Int} (m : List Int) (C : Array Value) (N : Nat) (hC : C = (cellsI m).toArray) (hN : N = m.length) (hs : a.eval s = v) (hown : OwnI B w0 v l) (hB : B ≤ w0.heap.size)
    (gg : Nat) (hgg : gg = w0.heap.size) (hx : a.eval x = .slice (some ⟨gg, 0, none⟩) N N) (hl : l.length + m.length ≤ 17592186044416)
    (h : ∀ a' n' c' w', Hid (OwnI B w' (.slice a' n' c') (l ++ m) ∧ w0.grownBy w' v.ownBlock ∧ At v (.slice a' n' c') w0) → wpList Try.prog ops Q rest (a.put o.dst (.slice a' n' c')) w') :
    wpList Try.prog ops Q (o :: rest) a (w0.alloc (.cells C 3)) := by
  subst hgg
  exact app_intsA hgd s x ho m C N hC hN hs hown hB hx hl h
theorem app_strsAG {ops : Array Oper} {rest : List Oper} {o : Oper} {a : Act} {Q : Exit → Act → World → Prop} (hgd : o.guard = none) (s x : Operand)
    (ho : o.op = .call { callee := .builtin .append, args := #[s, x], argTypes := #[22, 22] })
    {B : Nat} {w0 : World} {v : Value} {l : List ByteArray} (m : List ByteArray) (C : Array Value) (N : Nat) (hC : C = (cellsS m).toArray) (hN : N = m.length) (hs : a.eval s = v) (hown : OwnS B w0 v l) (hB : B ≤ w0.heap.size)
    (gg : Nat) (hgg : gg = w0.heap.size) (hx : a.eval x = .slice (some ⟨gg, 0, none⟩) N N) (hl : l.length + m.length ≤ 8796093022208)
    (h : ∀ a' n' c' w', Hid (OwnS B w' (.slice a' n' c') (l ++ m) ∧ w0.grownBy w' v.ownBlock) → wpList Try.prog ops Q rest (a.put o.dst (.slice a' n' c')) w') :
    wpList Try.prog ops Q (o :: rest) a (w0.alloc (.cells C 9)) := by
  subst hgg
  exact app_strsA hgd s x ho m C N hC hN hs hown hB hx hl h
theorem copied_lit (kd nx : Int) (dt : ByteArray) (ents : List Ent) (chs kids : List Int) (keys : List ByteArray) (ve vc vk vh : Value) (w : World) (hv : Ls w ⟨ve, vc, vk, vh⟩ ⟨kd, ents, chs, keys, kids, nx, dt⟩) (he : ents.length < 4398046511104) (hq : chs.length < 17592186044416 ∧ keys.length < 8796093022208 ∧ kids.length < 17592186044416) :
    Calls Try.prog 10 #[.agg #[.int .i64 kd, ve, vc, vk, vh, .int .i64 nx, .string dt]] w fun e w' => ∃ ae ce ac cc ak ck ah ch, e = .returned (.agg #[.int .i64 kd, .slice ae ents.length ce, .slice ac chs.length cc, .slice ak keys.length ck, .slice ah kids.length ch, .int .i64 nx, .string dt]) ∧ Ow w.heap.size w' ⟨.slice ae ents.length ce, .slice ac chs.length cc, .slice ak keys.length ck, .slice ah kids.length ch⟩ ⟨kd, ents, chs, keys, kids, nx, dt⟩ ∧ Below w.heap.size w w' := by
  refine (copied_any ⟨kd, ents, chs, keys, kids, nx, dt⟩ ⟨ve, vc, vk, vh⟩ w hv he hq).mono ?_
  rintro e w' ⟨⟨e1, c1, k1, h1⟩, rfl, oe, oc, ok, oh, ap, hb⟩
  obtain ⟨ae, ce, q1, _, _⟩ := oe.ents.len
  obtain ⟨ac, cc, q2, _, _⟩ := oc.ints.len
  obtain ⟨ak, ck, q3, _, _⟩ := ok.strs.len
  obtain ⟨ah, ch, q4, _, _⟩ := oh.ints.len
  simp only at q1 q2 q3 q4 oe oc ok oh ap
  subst q1 q2 q3 q4
  exact ⟨ae, ce, ac, cc, ak, ck, ah, ch, rfl, ⟨oe, oc, ok, oh, ap⟩, hb⟩
set_option maxHeartbeats 8000000 in
set_option maxRecDepth 100000 in
theorem marked_lit (kd nx : Int) (dt : ByteArray) (ents : List Ent) (chs kids : List Int) (keys : List ByteArray) (ae ac ak ah : Option Addr) (ce cc ck ch : Nat) (w : World) (hv : Ls w ⟨.slice ae ents.length ce, .slice ac chs.length cc, .slice ak keys.length ck, .slice ah kids.length ch⟩ ⟨kd, ents, chs, keys, kids, nx, dt⟩) (he : ents.length + 2 ≤ 4398046511104) (hq : chs.length + 2 ≤ 17592186044416 ∧ keys.length + 2 ≤ 8796093022208 ∧ kids.length + 2 ≤ 17592186044416) :
    Calls Try.prog 19 #[.agg #[.int .i64 kd, .slice ae ents.length ce, .slice ac chs.length cc, .slice ak keys.length ck, .slice ah kids.length ch, .int .i64 nx, .string dt]] w fun e w' => ∃ ae ce ac cc ak ck ah ch, e = .returned (.agg #[.int .i64 kd, .slice ae (ents.length + 2) ce, .slice ac (chs.length + 2) cc, .slice ak (keys.length + 2) ck, .slice ah (kids.length + 2) ch, .int .i64 nx, .string dt]) ∧ Ow w.heap.size w' ⟨.slice ae (ents.length + 2) ce, .slice ac (chs.length + 2) cc, .slice ak (keys.length + 2) ck, .slice ah (kids.length + 2) ch⟩ (mkN ⟨kd, ents, chs, keys, kids, nx, dt⟩) ∧ Below w.heap.size w w' := by
  obtain ⟨X2, hX2⟩ : ∃ X, X = (w.alloc (.cells #[.int .i64 kd, .slice ae ents.length ce, .slice ac chs.length cc, .slice ak keys.length ck, .slice ah kids.length ch, .int .i64 nx, .string dt] 27)).alloc (.cells #[.int .i64 0, .slice none 0 0, .slice none 0 0, .slice none 0 0, .slice none 0 0, .int .i64 0, .string ⟨#[]⟩] 27) := ⟨_, rfl⟩
  obtain ⟨gs, hgs⟩ : ∃ gs, gs = w.heap.size + 1 := ⟨_, rfl⟩
  have b1 : Below w.heap.size w (w.alloc (.cells #[.int .i64 kd, .slice ae ents.length ce, .slice ac chs.length cc, .slice ak keys.length ck, .slice ah kids.length ch, .int .i64 nx, .string dt] 27)) := (Below.refl _ _).alloc (Nat.le_refl _) _
  have b2 : Below w.heap.size w X2 := by rw [hX2]; exact b1.alloc b1.size _
  have S2 : Hid (X2.heap[gs]? = some (.cells zN 27 (0, 0)) ∧ w.heap.size ≤ gs ∧ gs < X2.heap.size ∧ Below w.heap.size w X2) := Lib.hid ⟨by
      rw [hX2, hgs]
      have := heap_alloc_new (w.alloc (.cells #[.int .i64 kd, .slice ae ents.length ce, .slice ac chs.length cc, .slice ak keys.length ck, .slice ah kids.length ch, .int .i64 nx, .string dt] 27)) (.cells zN 27 (0, 0))
      rw [show (w.alloc (.cells #[.int .i64 kd, .slice ae ents.length ce, .slice ac chs.length cc, .slice ak keys.length ck, .slice ah kids.length ch, .int .i64 nx, .string dt] 27)).heap.size = w.heap.size + 1 by simp] at this
      exact this, by rw [hgs]; omega, by rw [hX2, hgs]; simp, b2⟩
  have x2 : X2.heap[w.heap.size]? = some (.cells #[.int .i64 kd, .slice ae ents.length ce, .slice ac chs.length cc, .slice ak keys.length ck, .slice ah kids.length ch, .int .i64 nx, .string dt] 27 (0, 0)) := by
    rw [hX2, Below.heap_alloc _ _ _ (by simp)]; exact heap_alloc_new _ _
  obtain ⟨p0, p1, p2, p3, p4, p5, p6⟩ := node_cells x2
  clear x2
  have CO := Lib.hid (copied_lit kd nx dt ents chs kids keys _ _ _ _ X2 (hv.below b2) (by omega) (by omega))
  have LE := Lib.hid (And.intro he hq)
  have hX2' := hX2.symm
  have hgs' := hgs.symm
  clear hX2 hgs b1 b2 hv he hq
  go_enter Try.func19, Try.ntmps19
  go_wp2_with fail
  refine CO.out.mono ?_
  rintro e w1 ⟨be, de, bc, dc, bk, dk, bh, dh, rfl, o1, hb⟩
  have O1 := Lib.hid (And.intro o1 hb)
  clear o1 hb CO p0 p1 p2 p3 p4 p5 p6
  obtain ⟨gm, hgm⟩ : ∃ gm, gm = w1.heap.size := ⟨_, rfl⟩
  obtain ⟨X4, hX4⟩ : ∃ X, X = w1.alloc (.cells #[.int .i64 kd, .slice be ents.length de, .slice bc chs.length dc, .slice bk keys.length dk, .slice bh kids.length dh, .int .i64 nx, .string dt] 27) := ⟨_, rfl⟩
  have LG : Hid (X2.heap.size ≤ gm) := Lib.hid (by rw [hgm]; exact O1.out.2.size)
  have N1 : Hid (Nq w X4 X2.heap.size gs gm kd nx dt ⟨.slice be ents.length de, .slice bc chs.length dc, .slice bk keys.length dk, .slice bh kids.length dh⟩ ⟨kd, ents, chs, keys, kids, nx, dt⟩) := Lib.hid (by
    have b4 : Below w1.heap.size w1 X4 := by rw [hX4]; exact (Below.refl _ _).alloc (Nat.le_refl _) _
    have b5 : Below X2.heap.size X2 X4 := O1.out.2.trans (b4.mono O1.out.2.size)
    have s2 := S2.out.2.2.2.size
    have l1 := LG.out
    have l2 := S2.out.2.2.1
    exact ⟨(b5.block gs S2.out.2.2.1).trans S2.out.1, by rw [hX4, hgm]; exact heap_alloc_new _ _, O1.out.1.below b4, ⟨S2.out.2.1, by omega, s2, by omega⟩, S2.out.2.2.2.trans (b5.mono s2)⟩)
  obtain ⟨p0, p1, p2, p3, p4, p5, p6⟩ := node_cells N1.out.m
  simp only at p1 p2 p3 p4
  have hgm' := hgm.symm
  have hX4' := hX4.symm
  clear hgm hX4
  go_wp2_with (at_builtin; refine app_ents rfl (.tmp 7) (.tmp 10) rfl [(mkT, ⟨#[]⟩), (mkT, ⟨#[]⟩)] _ 2 rfl rfl (v := .slice be ents.length de) (l := ents) (w0 := X4) (B := X2.heap.size) rfl N1.out.o.e (N1.out.big LG.out) rfl LE.out.1 ?_)
  intro a5 n5 c5 w5 H5
  have e5 : n5 = ents.length + 2 := by
    obtain ⟨_, _, e, _, _⟩ := H5.out.1.ents.len
    simp only [Value.slice.injEq, List.length_append, List.length_cons, List.length_nil] at e
    omega
  subst e5
  have GN5 : Hid (w5.heap[gm]? = _) := Lib.hid (((grown_kept H5.out.2).block gm (lt_of_heap N1.out.m) (fun e => by obtain ⟨c1, e1⟩ := N1.out.o.e.row e.symm; exact row_ne e1 N1.out.m (by decide))).trans N1.out.m)
  clear p0 p1 p2 p3 p4 p5 p6
  obtain ⟨z0, z1, z2, z3, z4, z5, z6⟩ := node_cells GN5.out
  simp only at z1 z2 z3 z4
  have zf : w5.frozen? ⟨gm, 1, none⟩ = false := frozen_of_row _ _ _ _ _ GN5.out
  have N2 := Lib.hid (N1.out.ent H5.out.1 H5.out.2)
  obtain ⟨Y5, hY5⟩ : ∃ X, X = w5.setCell ⟨gm, 1, none⟩ (.slice a5 (ents.length + 2) c5) := ⟨_, rfl⟩
  have hY5' := hY5.symm
  rw [← hY5] at N2
  have HS5 : Hid (w5.heap.size = Y5.heap.size) := Lib.hid (by rw [hY5]; simp [World.setCell])
  clear hY5
  obtain ⟨p0, p1, p2, p3, p4, p5, p6⟩ := node_cells N2.out.m
  simp only at p1 p2 p3 p4
  go_wp2_with (at_builtin; first | (refine app_intsA rfl (.tmp 14) (.tmp 15) rfl [-71, -72] _ 2 rfl rfl (v := .slice bc chs.length dc) (l := chs) (w0 := Y5) (B := X2.heap.size) rfl N2.out.o.c (N2.out.big LG.out) rfl LE.out.2.1 ?_) | (refine app_intsAG rfl (.tmp 14) (.tmp 15) rfl [-71, -72] _ 2 rfl rfl (v := .slice bc chs.length dc) (l := chs) (w0 := Y5) (B := X2.heap.size) rfl N2.out.o.c (N2.out.big LG.out) w5.heap.size HS5.out rfl LE.out.2.1 ?_))
  intro a6 n6 c6 w6 H6
  have e6 : n6 = chs.length + 2 := by
    obtain ⟨_, _, e, _, _⟩ := H6.out.1.ints.len
    simp only [Value.slice.injEq, List.length_append, List.length_cons, List.length_nil] at e
    omega
  subst e6
  have GN6 : Hid (w6.heap[gm]? = _) := Lib.hid (((grown_kept H6.out.2.1).block gm (lt_of_heap N2.out.m) (fun e => by obtain ⟨c1, e1⟩ := N2.out.o.c.row e.symm; exact row_ne e1 N2.out.m (by decide))).trans N2.out.m)
  clear p0 p1 p2 p3 p4 p5 p6
  obtain ⟨z0, z1, z2, z3, z4, z5, z6⟩ := node_cells GN6.out
  simp only at z1 z2 z3 z4
  have zf : w6.frozen? ⟨gm, 2, none⟩ = false := frozen_of_row _ _ _ _ _ GN6.out
  have N3 := Lib.hid (N2.out.chain H6.out.1 H6.out.2.1 H6.out.2.2)
  obtain ⟨Y6, hY6⟩ : ∃ X, X = w6.setCell ⟨gm, 2, none⟩ (.slice a6 (chs.length + 2) c6) := ⟨_, rfl⟩
  have hY6' := hY6.symm
  rw [← hY6] at N3
  have HS6 : Hid (w6.heap.size = Y6.heap.size) := Lib.hid (by rw [hY6]; simp [World.setCell])
  clear hY6
  obtain ⟨p0, p1, p2, p3, p4, p5, p6⟩ := node_cells N3.out.m
  simp only at p1 p2 p3 p4
  go_wp2_with (at_builtin; first | (refine app_strsA rfl (.tmp 19) (.tmp 20) rfl [mkT, krT] _ 2 rfl rfl (v := .slice bk keys.length dk) (l := keys) (w0 := Y6) (B := X2.heap.size) rfl N3.out.o.k (N3.out.big LG.out) rfl LE.out.2.2.1 ?_) | (refine app_strsAG rfl (.tmp 19) (.tmp 20) rfl [mkT, krT] _ 2 rfl rfl (v := .slice bk keys.length dk) (l := keys) (w0 := Y6) (B := X2.heap.size) rfl N3.out.o.k (N3.out.big LG.out) w6.heap.size HS6.out rfl LE.out.2.2.1 ?_))
  intro a7 n7 c7 w7 H7
  have e7 : n7 = keys.length + 2 := by
    obtain ⟨_, _, e, _, _⟩ := H7.out.1.strs.len
    simp only [Value.slice.injEq, List.length_append, List.length_cons, List.length_nil] at e
    omega
  subst e7
  have GN7 : Hid (w7.heap[gm]? = _) := Lib.hid (((grown_kept H7.out.2).block gm (lt_of_heap N3.out.m) (fun e => by obtain ⟨c1, e1⟩ := N3.out.o.k.row e.symm; exact row_ne e1 N3.out.m (by decide))).trans N3.out.m)
  clear p0 p1 p2 p3 p4 p5 p6
  obtain ⟨z0, z1, z2, z3, z4, z5, z6⟩ := node_cells GN7.out
  simp only at z1 z2 z3 z4
  have zf : w7.frozen? ⟨gm, 3, none⟩ = false := frozen_of_row _ _ _ _ _ GN7.out
  have N4 := Lib.hid (N3.out.key H7.out.1 H7.out.2)
  obtain ⟨Y7, hY7⟩ : ∃ X, X = w7.setCell ⟨gm, 3, none⟩ (.slice a7 (keys.length + 2) c7) := ⟨_, rfl⟩
  have hY7' := hY7.symm
  rw [← hY7] at N4
  have HS7 : Hid (w7.heap.size = Y7.heap.size) := Lib.hid (by rw [hY7]; simp [World.setCell])
  clear hY7
  obtain ⟨p0, p1, p2, p3, p4, p5, p6⟩ := node_cells N4.out.m
  simp only at p1 p2 p3 p4
  go_wp2_with (at_builtin; first | (refine app_intsA rfl (.tmp 24) (.tmp 25) rfl [-73, -74] _ 2 rfl rfl (v := .slice bh kids.length dh) (l := kids) (w0 := Y7) (B := X2.heap.size) rfl N4.out.o.h (N4.out.big LG.out) rfl LE.out.2.2.2 ?_) | (refine app_intsAG rfl (.tmp 24) (.tmp 25) rfl [-73, -74] _ 2 rfl rfl (v := .slice bh kids.length dh) (l := kids) (w0 := Y7) (B := X2.heap.size) rfl N4.out.o.h (N4.out.big LG.out) w7.heap.size HS7.out rfl LE.out.2.2.2 ?_))
  intro a8 n8 c8 w8 H8
  have e8 : n8 = kids.length + 2 := by
    obtain ⟨_, _, e, _, _⟩ := H8.out.1.ints.len
    simp only [Value.slice.injEq, List.length_append, List.length_cons, List.length_nil] at e
    omega
  subst e8
  have GN8 : Hid (w8.heap[gm]? = _) := Lib.hid (((grown_kept H8.out.2.1).block gm (lt_of_heap N4.out.m) (fun e => by obtain ⟨c1, e1⟩ := N4.out.o.h.row e.symm; exact row_ne e1 N4.out.m (by decide))).trans N4.out.m)
  clear p0 p1 p2 p3 p4 p5 p6
  obtain ⟨z0, z1, z2, z3, z4, z5, z6⟩ := node_cells GN8.out
  simp only at z1 z2 z3 z4
  have zf : w8.frozen? ⟨gm, 4, none⟩ = false := frozen_of_row _ _ _ _ _ GN8.out
  have N5 := Lib.hid (N4.out.kid H8.out.1 H8.out.2.1 H8.out.2.2)
  obtain ⟨Y8, hY8⟩ : ∃ X, X = w8.setCell ⟨gm, 4, none⟩ (.slice a8 (kids.length + 2) c8) := ⟨_, rfl⟩
  have hY8' := hY8.symm
  rw [← hY8] at N5
  have HS8 : Hid (w8.heap.size = Y8.heap.size) := Lib.hid (by rw [hY8]; simp [World.setCell])
  clear hY8
  obtain ⟨p0, p1, p2, p3, p4, p5, p6⟩ := node_cells N5.out.m
  simp only at p1 p2 p3 p4
  have OV5 : Hid ((#[.int .i64 kd, .slice a5 (ents.length + 2) c5, .slice a6 (chs.length + 2) c6, .slice a7 (keys.length + 2) c7, .slice a8 (kids.length + 2) c8, .int .i64 nx, .string dt] : Array Value).all (·.oneCell') = true) := Lib.hid (arr_one _ _ _ ⟨rfl, rfl, rfl, rfl⟩)
  go_wp2_with (refine wpList_store_row rfl 27 (.tmp 2) (.tmp 28) rfl gs #[.int .i64 kd, .slice a5 (ents.length + 2) c5, .slice a6 (chs.length + 2) c6, .slice a7 (keys.length + 2) c7, .slice a8 (kids.length + 2) c8, .int .i64 nx, .string dt] rfl rfl 27 zN N5.out.s size_node rfl OV5.out ?_)
  refine bodyPost_ret (results_cell_row rfl _ _ gs 27 #[.int .i64 kd, .slice a5 (ents.length + 2) c5, .slice a6 (chs.length + 2) c6, .slice a7 (keys.length + 2) c7, .slice a8 (kids.length + 2) c8, .int .i64 nx, .string dt] (0, 0) _ rfl (setRow_heap _ _ _ _ _ _ N5.out.s) Try.underlying27 rfl size_node) rfl ?_
  have hkp := kept_setRow Y8 gs #[.int .i64 kd, .slice a5 (ents.length + 2) c5, .slice a6 (chs.length + 2) c6, .slice a7 (keys.length + 2) c7, .slice a8 (kids.length + 2) c8, .int .i64 nx, .string dt]
  have hb := N5.out.b
  refine ⟨a5, c5, a6, c6, a7, c7, a8, c8, rfl, ?_, N5.out.bl.trans (hkp.below N5.out.bl.size (fun x hx => by omega))⟩
  exact Ow.mono (N5.out.o.kept hkp (fun y hy e => by have := S2.out.2.2.1; omega)) hb.2.2.1
end Go.Proofs.Ytdlkebmndjmpdaa
