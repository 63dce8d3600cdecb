/-
  copied.
-/
import Derived.Test.YtmoghdpjemidgaaPgCo
import Derived.Test.YtmoghdpjemidgaaPgG
import Derived.Deep.RegionHeldLaw
namespace Go.Proofs.Ytmoghdpjemidgaa
open Go.RowKit Go.Maps
theorem OwnS.mono {B B' : Nat} {w : World} {v : Value} {l : List ByteArray} (H : OwnS B w v l) (h : B' ≤ B) : OwnS B' w v l := by
  obtain ⟨h1, h2 | ⟨g, cap, cur, hv, hB, hr⟩⟩ := H
  · exact ⟨h1, .inl h2⟩
  · exact ⟨h1, .inr ⟨g, cap, cur, hv, Nat.le_trans h hB, hr⟩⟩
theorem step_ent {ops : Array Oper} {o : Oper} {a : Act} {K : Act → World → Prop} {Q : Exit → Act → World → Prop} {E : Prop} (hgd : o.guard = none) (s x : Operand)
    (ho : o.op = .call { callee := .builtin .append, args := #[s, x], argTypes := #[25, 25] })
    {B : Nat} {w0 : World} {v : Value} {es : List Ent} (hs : a.eval s = v) (hown : OwnE B w0 v es) (hB : B ≤ w0.heap.size) (p q : ByteArray)
    (hx : a.eval x = .slice (some ⟨w0.heap.size, 0, none⟩) 1 1) (hl : es.length + 1 ≤ 4398046511104)
    (h : ∀ a' n' c' w', Hid (OwnE B w' (.slice a' n' c') (es ++ [(p, q)]) ∧ w0.grownBy w' v.ownBlock) → K (a.put o.dst (.slice a' n' c')) w') :
    if Region.wanted o (yielded ops a.tmps) = true then Oper.wp Try.prog o a (w0.alloc (.cells #[.string p, .string q] 29)) K Q else E := by
  obtain ⟨i0, hi, hz0, hz1, hz2⟩ := info_parts info_ent
  refine step_append_own hgd s x 25 ho B 29 i0 _ 2 32 Try.underlying25 hi hz0 hz1 hz2 rfl (by decide) v es.length (cellsE es) hs (World.ownsRow.alloc hown _) ⟨w0.heap.size, 0, none⟩ 1 1 [.string p, .string q] hx rfl ?_ ?_ (by unfold maxLen; omega) (by omega) (by simp; omega) ?_
  · intro j u hj
    rw [add_plain, Nat.zero_add, World.cell?_alloc_new, ← Array.getElem?_toList]; exact hj
  · exact encE_one (p, q)
  · intro v' w' h1 h2
    have o2 : OwnE B w' v' (es ++ [(p, q)]) := by
      show w'.ownsRow _ _ _ _ _ _
      rw [cellsE_app, List.length_append]; exact h1
    obtain ⟨a7, c7, h7, _⟩ := o2.ents.len
    subst h7
    exact h _ _ _ w' (Lib.hid ⟨o2, grown_alloc h2⟩)
theorem step_int {ops : Array Oper} {o : Oper} {a : Act} {K : Act → World → Prop} {Q : Exit → Act → World → Prop} {E : Prop} (hgd : o.guard = none) (s x : Operand)
    (ho : o.op = .call { callee := .builtin .append, args := #[s, x], argTypes := #[23, 23] })
    {B : Nat} {w0 : World} {v : Value} {es : List Int} (hs : a.eval s = v) (hown : OwnI B w0 v es) (hB : B ≤ w0.heap.size) (p : Int)
    (hx : a.eval x = .slice (some ⟨w0.heap.size, 0, none⟩) 1 1) (hl : es.length + 1 ≤ 17592186044416)
    (h : ∀ a' n' c' w', Hid (OwnI B w' (.slice a' n' c') (es ++ [p]) ∧ w0.grownBy w' v.ownBlock ∧ At v (.slice a' n' c') w0) → K (a.put o.dst (.slice a' n' c')) w') :
    if Region.wanted o (yielded ops a.tmps) = true then Oper.wp Try.prog o a (w0.alloc (.cells #[.int .i64 p] 3)) K Q else E := by
  have hw : Region.wanted o (yielded ops a.tmps) = true := by simp [Region.wanted, hgd]
  rw [if_pos hw]
  obtain ⟨i0, hi, hz0, hz1, hz2⟩ := info_parts info_int
  obtain ⟨v', w', hr, h2, h3, _, h5⟩ := run_append_own_at (P := Try.prog) (w0.alloc (.cells #[.int .i64 p] 3)) B 23 o.type 3 i0 (.int .i64 0) 1 8 Try.underlying23 hi hz0 hz1 hz2 rfl (by decide) v es.length (cellsI es) (World.ownsRow.alloc hown _) ⟨w0.heap.size, 0, none⟩ 1 1 (cellsI [p]) rfl (fun j u hj => by rw [add_plain, Nat.zero_add, World.cell?_alloc_new, ← Array.getElem?_toList]; exact hj) (cellsI_one [p]) (by unfold maxLen; omega) (by omega) (by simp; omega)
  unfold Oper.wp execOp
  simp only [ho, resolve, invoke, builtin, Sem.run_bind, Sem.run_pure, Result.andThen_ok, List.map_toArray, List.map_cons, List.map_nil, hs, hx, hr]
  have o2 : OwnI B w' v' (es ++ [p]) := by
    show w'.ownsRow _ _ _ _ _ _
    rw [cellsI_app, List.length_append]; exact h2
  obtain ⟨a7, c7, h7, _⟩ := o2.len
  subst h7
  exact h _ _ _ w' (Lib.hid ⟨o2, grown_alloc h3, at_of h5 (by simp)⟩)
theorem step_str {ops : Array Oper} {o : Oper} {a : Act} {K : Act → World → Prop} {Q : Exit → Act → World → Prop} {E : Prop} (hgd : o.guard = none) (s x : Operand)
    (ho : o.op = .call { callee := .builtin .append, args := #[s, x], argTypes := #[22, 22] })
    {B : Nat} {w0 : World} {v : Value} {es : List ByteArray} (hs : a.eval s = v) (hown : OwnS B w0 v es) (hB : B ≤ w0.heap.size) (p : ByteArray)
    (hx : a.eval x = .slice (some ⟨w0.heap.size, 0, none⟩) 1 1) (hl : es.length + 1 ≤ 8796093022208)
    (h : ∀ a' n' c' w', Hid (OwnS B w' (.slice a' n' c') (es ++ [p]) ∧ w0.grownBy w' v.ownBlock) → K (a.put o.dst (.slice a' n' c')) w') :
    if Region.wanted o (yielded ops a.tmps) = true then Oper.wp Try.prog o a (w0.alloc (.cells #[.string p] 9)) K Q else E := by
  obtain ⟨i0, hi, hz0, hz1, hz2⟩ := info_parts info_str
  refine step_append_own hgd s x 22 ho B 9 i0 _ 1 16 Try.underlying22 hi hz0 hz1 hz2 rfl (by decide) v es.length (cellsS es) hs (World.ownsRow.alloc hown _) ⟨w0.heap.size, 0, none⟩ 1 1 [.string p] hx rfl ?_ ?_ (by unfold maxLen; omega) (by omega) (by simp; omega) ?_
  · intro j u hj
    rw [add_plain, Nat.zero_add, World.cell?_alloc_new, ← Array.getElem?_toList]; exact hj
  · intro v hv; simp only [List.mem_cons, List.not_mem_nil, or_false] at hv; rw [hv]; rfl
  · intro v' w' h1 h2
    have o2 : OwnS B w' v' (es ++ [p]) := by
      show w'.ownsRow _ _ _ _ _ _
      have e : cellsS (es ++ [p]) = cellsS es ++ [.string p] := by simp [cellsS]
      rw [e, List.length_append]; exact h1
    obtain ⟨a7, c7, h7, _⟩ := o2.strs.len
    subst h7
    exact h _ _ _ w' (Lib.hid ⟨o2, grown_alloc h2⟩)
set_option maxHeartbeats 8000000 in
set_option maxRecDepth 100000 in
theorem copied_any (n : Nd) (v : Nv) (w : World) (hv : Ls w v n) (he : n.ents.length < 4398046511104) (hq : n.chs.length < 17592186044416 ∧ n.keys.length < 8796093022208 ∧ n.kids.length < 17592186044416) :
    Calls Try.prog 8 #[.agg (n.arr v)] w fun e w' => ∃ v', e = .returned (.agg (n.arr v')) ∧ OwnE w.heap.size w' v'.e n.ents ∧ OwnI w.heap.size w' v'.c n.chs ∧ OwnS w.heap.size w' v'.k n.keys ∧ OwnI w.heap.size w' v'.h n.kids ∧ (∀ g, v'.c.ownBlock = some g → v'.h.ownBlock ≠ some g) ∧ Below w.heap.size w w' := by
  have V := Lib.hid hv
  obtain ⟨kind, ents, chs, keys, kids, next, data⟩ := n
  obtain ⟨ve, vc, vk, vh⟩ := v
  obtain ⟨ae, ce, he', hle, hme⟩ := hv.e.len
  obtain ⟨ac, cc, hc, hlc, hmc⟩ := hv.c.len
  obtain ⟨ak, ck, hk, hlk, hmk⟩ := hv.k.len
  obtain ⟨ah, ch, hh, hlh, hmh⟩ := hv.h.len
  simp only at he' hc hk hh hle hlc hlk hlh he hq
  obtain ⟨hq1, hq2, hq3⟩ := hq
  subst he' hc hk hh
  unfold maxLen at hme hmc hmk hmh
  unfold Nd.arr
  simp only
  obtain ⟨ne, hne⟩ : ∃ k, k = ents.length := ⟨_, rfl⟩
  obtain ⟨nc, hnc⟩ : ∃ k, k = chs.length := ⟨_, rfl⟩
  obtain ⟨nk, hnk⟩ : ∃ k, k = keys.length := ⟨_, rfl⟩
  obtain ⟨nh, hnh⟩ : ∃ k, k = kids.length := ⟨_, rfl⟩
  rw [← hne, ← hnc, ← hnk, ← hnh]
  rw [← hne] at hle he; rw [← hnc] at hlc hq1; rw [← hnk] at hlk hq2; rw [← hnh] at hlh hq3
  have HE := Lib.hid hne; have HC := Lib.hid hnc; have HK := Lib.hid hnk; have HH := Lib.hid hnh
  obtain ⟨A, hA⟩ : ∃ A : Array Value, A = #[.int .i64 kind, .slice ae ne ce, .slice ac nc cc, .slice ak nk ck, .slice ah nh ch, .int .i64 next, .string data] := ⟨_, rfl⟩
  obtain ⟨gx, hgx⟩ : ∃ gx, gx = w.heap.size := ⟨_, rfl⟩
  obtain ⟨X1, hX1⟩ : ∃ X1, X1 = w.alloc (.cells #[.int .i64 kind, .slice ae ne ce, .slice ac nc cc, .slice ak nk ck, .slice ah nh ch, .int .i64 next, .string data] 27) := ⟨_, rfl⟩
  obtain ⟨gs, hgs⟩ : ∃ gs, gs = X1.heap.size := ⟨_, rfl⟩
  obtain ⟨X2, hX2⟩ : ∃ X2, X2 = X1.alloc (.cells #[.int .i64 0, .slice none 0 0, .slice none 0 0, .slice none 0 0, .slice none 0 0, .int .i64 0, .string ⟨#[]⟩] 27) := ⟨_, rfl⟩
  obtain ⟨gm, hgm⟩ : ∃ gm, gm = X2.heap.size := ⟨_, rfl⟩
  obtain ⟨X3z, hX3z⟩ : ∃ X3z, X3z = X2.alloc (.cells #[.int .i64 0, .slice none 0 0, .slice none 0 0, .slice none 0 0, .slice none 0 0, .int .i64 0, .string ⟨#[]⟩] 27) := ⟨_, rfl⟩
  obtain ⟨X3, hX3⟩ : ∃ X3, X3 = X3z.setRow gm #[.int .i64 kind, .slice none 0 0, .slice none 0 0, .slice none 0 0, .slice none 0 0, .int .i64 next, .string data] := ⟨_, rfl⟩
  have s1 : gs = gx + 1 := by rw [hgs, hX1, hgx]; simp
  have s2 : gm = gs + 1 := by rw [hgm, hX2, hgs]; simp
  have b1 : Below w.heap.size w X1 := by rw [hX1]; exact (Below.refl _ _).alloc (Nat.le_refl _) _
  have b2 : Below w.heap.size w X2 := by rw [hX2]; exact b1.alloc b1.size _
  have b3 : Below w.heap.size w X3z := by rw [hX3z]; exact b2.alloc b2.size _
  have s3 : X3z.heap.size = gm + 1 := by rw [hX3z, hgm]; simp
  have GZ : Hid (X3z.heap[gm]? = some (.cells #[.int .i64 0, .slice none 0 0, .slice none 0 0, .slice none 0 0, .slice none 0 0, .int .i64 0, .string ⟨#[]⟩] 27 (0, 0))) := Lib.hid (by rw [hX3z, hgm]; exact heap_alloc_new _ _)
  have kp : Kept (fun y => y = gm) X3z X3 := by rw [hX3]; exact kept_setRow _ _ _
  have x2 : X2.heap[gx]? = some (.cells A 27 (0, 0)) := by rw [hX2, Below.heap_alloc _ _ _ (by omega), hX1, hgx, hA]; exact heap_alloc_new _ _
  have N0 : Hid (Nw w X3 gx gs gm A kind next data ⟨.slice none 0 0, .slice none 0 0, .slice none 0 0, .slice none 0 0⟩ ⟨kind, [], [], [], [], next, data⟩) := Lib.hid ⟨by rw [kp.block gx (by omega) (by omega), hX3z, Below.heap_alloc _ _ _ (by omega)]; exact x2, by rw [kp.block gs (by omega) (by omega), hX3z, Below.heap_alloc _ _ _ (by omega), hX2, hgs]; exact heap_alloc_new _ _, by rw [hX3]; exact setRow_heap _ _ _ _ _ _ GZ.out, World.ownsRow_nil _ _ _ _, World.ownsRow_nil _ _ _ _, World.ownsRow_nil _ _ _ _, World.ownsRow_nil _ _ _ _, (fun g h => by cases h), by omega, b3.trans (kp.below b3.size (fun x hx => by omega))⟩
  have ON : Hid ((#[.int .i64 kind, .slice none 0 0, .slice none 0 0, .slice none 0 0, .slice none 0 0, .int .i64 next, .string data] : Array Value).all (·.oneCell') = true) := Lib.hid (by simp [Value.oneCell'])
  obtain ⟨p0, p1, p2, p3, p4, p5, p6⟩ := node_cells (W := X2) (g := gx) (by rw [← hA]; exact x2)
  have hgx' := hgx.symm; have hX1' := hX1.symm; have hgs' := hgs.symm; have hX2' := hX2.symm; have hgm' := hgm.symm; have hX3z' := hX3z.symm; have hX3' := hX3.symm
  have AH := Lib.hid hA
  clear hv hne hnc hnk hnh hgx hX1 hgs hX2 hgm hX3z hX3 s1 s2 b1 b2 b3 s3 kp x2 hA
  go_enter Try.func8, Try.ntmps8
  go_wp2_with (refine wpList_store_row rfl 27 (.tmp 3) (.tmp 14) rfl gm #[.int .i64 kind, .slice none 0 0, .slice none 0 0, .slice none 0 0, .slice none 0 0, .int .i64 next, .string data] rfl rfl 27 #[.int .i64 0, .slice none 0 0, .slice none 0 0, .slice none 0 0, .slice none 0 0, .int .i64 0, .string ⟨#[]⟩] GZ.out size_node rfl ON.out ?_; rw [hX3'])
  clear hgx' hX1' hgs' hX2' hgm' hX3z' hX3' p0 p1 p2 p3 p4 p5 p6
  go_loopg [4] ne (fun gg si wr => ∃ (k : Nat) (a1 : Option Addr) (c1 : Nat), k ≤ ne ∧ gg = ne - k ∧ si = .int .i64 k ∧ Nw w wr gx gs gm A kind next data ⟨.slice a1 k c1, .slice none 0 0, .slice none 0 0, .slice none 0 0⟩ ⟨kind, ents.take k, [], [], [], next, data⟩)
  case atStart => exact ⟨0, none, 0, Nat.zero_le _, rfl, rfl, N0.out⟩
  case round =>
    obtain ⟨k, a1, c1, hk, hg, rfl, hnw⟩ := hrel
    have R0 : Aside (gk = ne - k ∧ Nw w wr gx gs gm A kind next data ⟨.slice a1 k c1, .slice none 0 0, .slice none 0 0, .slice none 0 0⟩ ⟨kind, ents.take k, [], [], [], next, data⟩) := ⟨hg, hnw⟩
    clear hg hnw
    obtain ⟨x0, x1, x2, x3, x4, x5, x6⟩ := node_cells (W := wr) (g := gx) (by rw [← AH.out]; exact R0.out.2.x)
    obtain ⟨m0, m1, m2, m3, m4, m5, m6⟩ := node_cells R0.out.2.m
    simp only at m1 m2 m3 m4
    by_cases hlt : k < ne
    · obtain ⟨b, off, ha, e0, e1⟩ := (V.out.e.below R0.out.2.bl).at k (by rw [← HE.out]; exact hlt)
      simp only at ha e0 e1
      subst ha
      obtain ⟨x, hx⟩ : ∃ x, x = ents.getD k (⟨#[]⟩, ⟨#[]⟩) := ⟨_, rfl⟩
      rw [← hx] at e0 e1
      have TO := Lib.hid (take_oneI ents k (⟨#[]⟩, ⟨#[]⟩) (by rw [← HE.out]; exact hlt))
      rw [← hx] at TO
      obtain ⟨xk, xv⟩ := x
      simp only at e0 e1
      clear hx
      have hlt' : (k : Int) < (ne : Int) := by omega
      have ND := Lib.hid R0.out.2.drew
      have TL : Hid ((ents.take k).length = k) := Lib.hid (by rw [List.length_take, ← HE.out]; omega)
      have LL : Hid ((ents.take k).length + 1 ≤ 4398046511104) := Lib.hid (by rw [TL.out]; omega)
      have LB : Hid (gm + 1 ≤ wr.drew.heap.size) := Lib.hid ND.out.lt
      have mA : ∀ ob, (wr.alloc ob).cell? ⟨gm, 1, none⟩ = some (.slice a1 k c1) := fun ob => by rw [cell_of_row _ _ _ _ _ _ (R0.out.2.alloc ob).m]; rfl
      have xA : ∀ ob, (wr.alloc ob).cell? ⟨gx, 1, none⟩ = some (.slice (some ⟨b, off, none⟩) ne ce) := fun ob => by rw [((Below.refl wr.heap.size wr).alloc (Nat.le_refl _) ob).cell (block_lt_of_cell x1)]; exact x1
      go_wp2_with fail
      go_region_law (refine step_ent rfl (.tmp 23) (.tmp 29) rfl (B := gm + 1) (w0 := wr.drew) (v := .slice a1 k c1) (es := ents.take k) rfl ND.out.e LB.out xk xv rfl LL.out ?_; intro a7 n7 c7 w7 H7; have GN : Hid (w7.heap[gm]? = _) := Lib.hid (((grown_kept H7.out.2).block gm (lt_of_heap ND.out.m) (fun e => by have := (ND.out.e.lt gm e.symm).1; omega)).trans ND.out.m); have y1 := (node_cells GN.out); have y2 : w7.frozen? ⟨gm, 1, none⟩ = false := frozen_of_row _ _ _ _ _ GN.out; obtain ⟨z0, z1, z2, z3, z4, z5, z6⟩ := y1)
      all_goals
        have N7 : n7 = k + 1 := by
          obtain ⟨a8, c8, h8, _⟩ := H7.out.1.ents.len
          simp only [Value.slice.injEq] at h8
          rw [h8.2.1, List.length_append, TL.out]; rfl
        subst N7
        have NN := Lib.hid (ND.out.ent H7.out.1 H7.out.2)
        clear z0 z1 z2 z3 z4 z5 z6 y2
        go_wp2_with fail
        go_roundg (ne - (k + 1))
        case measure => have := R0.out.1; omega
        case rel => exact ⟨k + 1, a7, c7, by omega, rfl, by go_num, by rw [TO.out]; exact NN.out⟩
    · have ek : k = ne := by omega
      obtain rfl := ek.symm
      have eb : ents.take ne = ents := List.take_of_length_le (by rw [← HE.out]; exact Nat.le_refl _)
      have RN0 := Lib.hid R0.out.2
      rw [eb] at RN0
      go_wp2_with fail
      clear x0 x1 x2 x3 x4 x5 x6 m0 m1 m2 m3 m4 m5 m6 hlt hk eb
      go_loopg [5] nc (fun gg si wr => ∃ (k : Nat) (a2 : Option Addr) (c2 : Nat), k ≤ nc ∧ gg = nc - k ∧ si = .int .i64 k ∧ Nw w wr gx gs gm A kind next data ⟨.slice a1 ne c1, .slice a2 k c2, .slice none 0 0, .slice none 0 0⟩ ⟨kind, ents, chs.take k, [], [], next, data⟩)
      case atStart => exact ⟨0, none, 0, Nat.zero_le _, rfl, rfl, RN0.out⟩
      case round =>
        obtain ⟨k, a2, c2, hk, hg, rfl, hnw⟩ := hrel
        have R1 : Aside (gk = nc - k ∧ Nw w wr gx gs gm A kind next data ⟨.slice a1 ne c1, .slice a2 k c2, .slice none 0 0, .slice none 0 0⟩ ⟨kind, ents, chs.take k, [], [], next, data⟩) := ⟨hg, hnw⟩
        clear hg hnw
        obtain ⟨x0, x1, x2, x3, x4, x5, x6⟩ := node_cells (W := wr) (g := gx) (by rw [← AH.out]; exact R1.out.2.x)
        obtain ⟨m0, m1, m2, m3, m4, m5, m6⟩ := node_cells R1.out.2.m
        simp only at m1 m2 m3 m4
        by_cases hlt : k < nc
        · obtain ⟨b, off, ha, e0⟩ := (V.out.c.below R1.out.2.bl).at k (by rw [← HC.out]; exact hlt)
          simp only at ha e0
          subst ha
          obtain ⟨x, hx⟩ : ∃ x, x = chs.getD k 0 := ⟨_, rfl⟩
          rw [← hx] at e0
          have TO := Lib.hid (take_oneI chs k 0 (by rw [← HC.out]; exact hlt))
          rw [← hx] at TO
          clear hx
          have hlt' : (k : Int) < (nc : Int) := by omega
          have ND := Lib.hid R1.out.2.drew
          have TL : Hid ((chs.take k).length = k) := Lib.hid (by rw [List.length_take, ← HC.out]; omega)
          have LL : Hid ((chs.take k).length + 1 ≤ 17592186044416) := Lib.hid (by rw [TL.out]; omega)
          have LB : Hid (gm + 1 ≤ wr.drew.heap.size) := Lib.hid ND.out.lt
          have mA : ∀ ob, (wr.alloc ob).cell? ⟨gm, 2, none⟩ = some (.slice a2 k c2) := fun ob => by rw [cell_of_row _ _ _ _ _ _ (R1.out.2.alloc ob).m]; rfl
          have xA : ∀ ob, (wr.alloc ob).cell? ⟨gx, 2, none⟩ = some (.slice (some ⟨b, off, none⟩) nc cc) := fun ob => by rw [((Below.refl wr.heap.size wr).alloc (Nat.le_refl _) ob).cell (block_lt_of_cell x2)]; exact x2
          go_wp2_with fail
          go_region_law (refine step_int rfl (.tmp 40) (.tmp 46) rfl (B := gm + 1) (w0 := wr.drew) (v := .slice a2 k c2) (es := chs.take k) rfl ND.out.c LB.out x rfl LL.out ?_; intro a7 n7 c7 w7 H7; have GN : Hid (w7.heap[gm]? = _) := Lib.hid (((grown_kept H7.out.2.1).block gm (lt_of_heap ND.out.m) (fun e => by have := (ND.out.c.lt gm e.symm).1; omega)).trans ND.out.m); have y1 := (node_cells GN.out); have y2 : w7.frozen? ⟨gm, 2, none⟩ = false := frozen_of_row _ _ _ _ _ GN.out; obtain ⟨z0, z1, z2, z3, z4, z5, z6⟩ := y1)
          all_goals
            have N7 : n7 = k + 1 := by
              obtain ⟨a8, c8, h8, _⟩ := H7.out.1.len
              simp only [Value.slice.injEq] at h8
              rw [h8.2.1, List.length_append, TL.out]; rfl
            subst N7
            have NN := Lib.hid (ND.out.chain H7.out.1 H7.out.2.1 H7.out.2.2)
            clear z0 z1 z2 z3 z4 z5 z6 y2
            go_wp2_with fail
            go_roundg (nc - (k + 1))
            case measure => have := R1.out.1; omega
            case rel => exact ⟨k + 1, a7, c7, by omega, rfl, by go_num, by rw [TO.out]; exact NN.out⟩
        · have ek : k = nc := by omega
          obtain rfl := ek.symm
          have eb : chs.take nc = chs := List.take_of_length_le (by rw [← HC.out]; exact Nat.le_refl _)
          have RN1 := Lib.hid R1.out.2
          rw [eb] at RN1
          go_wp2_with fail
          clear x0 x1 x2 x3 x4 x5 x6 m0 m1 m2 m3 m4 m5 m6 hlt hk eb
          go_loopg [6] nk (fun gg si wr => ∃ (k : Nat) (a3 : Option Addr) (c3 : Nat), k ≤ nk ∧ gg = nk - k ∧ si = .int .i64 k ∧ Nw w wr gx gs gm A kind next data ⟨.slice a1 ne c1, .slice a2 nc c2, .slice a3 k c3, .slice none 0 0⟩ ⟨kind, ents, chs, keys.take k, [], next, data⟩)
          case atStart => exact ⟨0, none, 0, Nat.zero_le _, rfl, rfl, RN1.out⟩
          case round =>
            obtain ⟨k, a3, c3, hk, hg, rfl, hnw⟩ := hrel
            have R2 : Aside (gk = nk - k ∧ Nw w wr gx gs gm A kind next data ⟨.slice a1 ne c1, .slice a2 nc c2, .slice a3 k c3, .slice none 0 0⟩ ⟨kind, ents, chs, keys.take k, [], next, data⟩) := ⟨hg, hnw⟩
            clear hg hnw
            obtain ⟨x0, x1, x2, x3, x4, x5, x6⟩ := node_cells (W := wr) (g := gx) (by rw [← AH.out]; exact R2.out.2.x)
            obtain ⟨m0, m1, m2, m3, m4, m5, m6⟩ := node_cells R2.out.2.m
            simp only at m1 m2 m3 m4
            by_cases hlt : k < nk
            · obtain ⟨b, off, ha, e0⟩ := (V.out.k.below R2.out.2.bl).at k (by rw [← HK.out]; exact hlt)
              simp only at ha e0
              subst ha
              obtain ⟨x, hx⟩ : ∃ x, x = keys.getD k ⟨#[]⟩ := ⟨_, rfl⟩
              rw [← hx] at e0
              have TO := Lib.hid (take_oneI keys k ⟨#[]⟩ (by rw [← HK.out]; exact hlt))
              rw [← hx] at TO
              clear hx
              have hlt' : (k : Int) < (nk : Int) := by omega
              have ND := Lib.hid R2.out.2.drew
              have TL : Hid ((keys.take k).length = k) := Lib.hid (by rw [List.length_take, ← HK.out]; omega)
              have LL : Hid ((keys.take k).length + 1 ≤ 8796093022208) := Lib.hid (by rw [TL.out]; omega)
              have LB : Hid (gm + 1 ≤ wr.drew.heap.size) := Lib.hid ND.out.lt
              have mA : ∀ ob, (wr.alloc ob).cell? ⟨gm, 3, none⟩ = some (.slice a3 k c3) := fun ob => by rw [cell_of_row _ _ _ _ _ _ (R2.out.2.alloc ob).m]; rfl
              have xA : ∀ ob, (wr.alloc ob).cell? ⟨gx, 3, none⟩ = some (.slice (some ⟨b, off, none⟩) nk ck) := fun ob => by rw [((Below.refl wr.heap.size wr).alloc (Nat.le_refl _) ob).cell (block_lt_of_cell x3)]; exact x3
              go_wp2_with fail
              go_region_law (refine step_str rfl (.tmp 57) (.tmp 63) rfl (B := gm + 1) (w0 := wr.drew) (v := .slice a3 k c3) (es := keys.take k) rfl ND.out.k LB.out x rfl LL.out ?_; intro a7 n7 c7 w7 H7; have GN : Hid (w7.heap[gm]? = _) := Lib.hid (((grown_kept H7.out.2).block gm (lt_of_heap ND.out.m) (fun e => by have := (ND.out.k.lt gm e.symm).1; omega)).trans ND.out.m); have y1 := (node_cells GN.out); have y2 : w7.frozen? ⟨gm, 3, none⟩ = false := frozen_of_row _ _ _ _ _ GN.out; obtain ⟨z0, z1, z2, z3, z4, z5, z6⟩ := y1)
              all_goals
                have N7 : n7 = k + 1 := by
                  obtain ⟨a8, c8, h8, _⟩ := H7.out.1.strs.len
                  simp only [Value.slice.injEq] at h8
                  rw [h8.2.1, List.length_append, TL.out]; rfl
                subst N7
                have NN := Lib.hid (ND.out.key H7.out.1 H7.out.2)
                clear z0 z1 z2 z3 z4 z5 z6 y2
                go_wp2_with fail
                go_roundg (nk - (k + 1))
                case measure => have := R2.out.1; omega
                case rel => exact ⟨k + 1, a7, c7, by omega, rfl, by go_num, by rw [TO.out]; exact NN.out⟩
            · have ek : k = nk := by omega
              obtain rfl := ek.symm
              have eb : keys.take nk = keys := List.take_of_length_le (by rw [← HK.out]; exact Nat.le_refl _)
              have RN2 := Lib.hid R2.out.2
              rw [eb] at RN2
              go_wp2_with fail
              clear x0 x1 x2 x3 x4 x5 x6 m0 m1 m2 m3 m4 m5 m6 hlt hk eb
              go_loopg [7] nh (fun gg si wr => ∃ (k : Nat) (a4 : Option Addr) (c4 : Nat), k ≤ nh ∧ gg = nh - k ∧ si = .int .i64 k ∧ Nw w wr gx gs gm A kind next data ⟨.slice a1 ne c1, .slice a2 nc c2, .slice a3 nk c3, .slice a4 k c4⟩ ⟨kind, ents, chs, keys, kids.take k, next, data⟩)
              case atStart => exact ⟨0, none, 0, Nat.zero_le _, rfl, rfl, RN2.out⟩
              case round =>
                obtain ⟨k, a4, c4, hk, hg, rfl, hnw⟩ := hrel
                have R3 : Aside (gk = nh - k ∧ Nw w wr gx gs gm A kind next data ⟨.slice a1 ne c1, .slice a2 nc c2, .slice a3 nk c3, .slice a4 k c4⟩ ⟨kind, ents, chs, keys, kids.take k, next, data⟩) := ⟨hg, hnw⟩
                clear hg hnw
                obtain ⟨x0, x1, x2, x3, x4, x5, x6⟩ := node_cells (W := wr) (g := gx) (by rw [← AH.out]; exact R3.out.2.x)
                obtain ⟨m0, m1, m2, m3, m4, m5, m6⟩ := node_cells R3.out.2.m
                simp only at m1 m2 m3 m4
                by_cases hlt : k < nh
                · obtain ⟨b, off, ha, e0⟩ := (V.out.h.below R3.out.2.bl).at k (by rw [← HH.out]; exact hlt)
                  simp only at ha e0
                  subst ha
                  obtain ⟨x, hx⟩ : ∃ x, x = kids.getD k 0 := ⟨_, rfl⟩
                  rw [← hx] at e0
                  have TO := Lib.hid (take_oneI kids k 0 (by rw [← HH.out]; exact hlt))
                  rw [← hx] at TO
                  clear hx
                  have hlt' : (k : Int) < (nh : Int) := by omega
                  have ND := Lib.hid R3.out.2.drew
                  have TL : Hid ((kids.take k).length = k) := Lib.hid (by rw [List.length_take, ← HH.out]; omega)
                  have LL : Hid ((kids.take k).length + 1 ≤ 17592186044416) := Lib.hid (by rw [TL.out]; omega)
                  have LB : Hid (gm + 1 ≤ wr.drew.heap.size) := Lib.hid ND.out.lt
                  have mA : ∀ ob, (wr.alloc ob).cell? ⟨gm, 4, none⟩ = some (.slice a4 k c4) := fun ob => by rw [cell_of_row _ _ _ _ _ _ (R3.out.2.alloc ob).m]; rfl
                  have xA : ∀ ob, (wr.alloc ob).cell? ⟨gx, 4, none⟩ = some (.slice (some ⟨b, off, none⟩) nh ch) := fun ob => by rw [((Below.refl wr.heap.size wr).alloc (Nat.le_refl _) ob).cell (block_lt_of_cell x4)]; exact x4
                  go_wp2_with fail
                  go_region_law (refine step_int rfl (.tmp 74) (.tmp 80) rfl (B := gm + 1) (w0 := wr.drew) (v := .slice a4 k c4) (es := kids.take k) rfl ND.out.h LB.out x rfl LL.out ?_; intro a7 n7 c7 w7 H7; have GN : Hid (w7.heap[gm]? = _) := Lib.hid (((grown_kept H7.out.2.1).block gm (lt_of_heap ND.out.m) (fun e => by have := (ND.out.h.lt gm e.symm).1; omega)).trans ND.out.m); have y1 := (node_cells GN.out); have y2 : w7.frozen? ⟨gm, 4, none⟩ = false := frozen_of_row _ _ _ _ _ GN.out; obtain ⟨z0, z1, z2, z3, z4, z5, z6⟩ := y1)
                  all_goals
                    have N7 : n7 = k + 1 := by
                      obtain ⟨a8, c8, h8, _⟩ := H7.out.1.len
                      simp only [Value.slice.injEq] at h8
                      rw [h8.2.1, List.length_append, TL.out]; rfl
                    subst N7
                    have NN := Lib.hid (ND.out.kid H7.out.1 H7.out.2.1 H7.out.2.2)
                    clear z0 z1 z2 z3 z4 z5 z6 y2
                    go_wp2_with fail
                    go_roundg (nh - (k + 1))
                    case measure => have := R3.out.1; omega
                    case rel => exact ⟨k + 1, a7, c7, by omega, rfl, by go_num, by rw [TO.out]; exact NN.out⟩
                · have ek : k = nh := by omega
                  obtain rfl := ek.symm
                  have eb : kids.take nh = kids := List.take_of_length_le (by rw [← HH.out]; exact Nat.le_refl _)
                  have RN3 := Lib.hid R3.out.2
                  rw [eb] at RN3
                  have ON2 : Hid ((#[.int .i64 kind, .slice a1 ne c1, .slice a2 nc c2, .slice a3 nk c3, .slice a4 nh c4, .int .i64 next, .string data] : Array Value).all (·.oneCell') = true) := Lib.hid (by simp [Value.oneCell'])
                  go_wp2_with (refine wpList_store_row rfl 27 (.tmp 2) (.tmp 83) rfl gs #[.int .i64 kind, .slice a1 ne c1, .slice a2 nc c2, .slice a3 nk c3, .slice a4 nh c4, .int .i64 next, .string data] rfl rfl 27 zN RN3.out.s size_node rfl ON2.out ?_)
                  refine bodyPost_ret (results_cell_row rfl _ _ gs 27 #[.int .i64 kind, .slice a1 ne c1, .slice a2 nc c2, .slice a3 nk c3, .slice a4 nh c4, .int .i64 next, .string data] (0, 0) _ rfl (setRow_heap _ _ _ _ _ _ RN3.out.s) Try.underlying27 rfl size_node) rfl ?_
                  have ho := RN3.out.o
                  have hkp := kept_setRow wr gs #[.int .i64 kind, .slice a1 ne c1, .slice a2 nc c2, .slice a3 nk c3, .slice a4 nh c4, .int .i64 next, .string data]
                  refine ⟨⟨.slice a1 ne c1, .slice a2 nc c2, .slice a3 nk c3, .slice a4 nh c4⟩, rfl, ?_, ?_, ?_, ?_, RN3.out.ap, RN3.out.bl.trans (hkp.below RN3.out.bl.size (fun x hx => by omega))⟩
                  · exact OwnE.mono (RN3.out.e.kept hkp (fun g hg e => by have := (RN3.out.e.lt g hg).1; omega)) (by omega)
                  · exact (RN3.out.c.kept hkp (fun g hg e => by have := (RN3.out.c.lt g hg).1; omega)).mono (by omega)
                  · exact OwnS.mono (RN3.out.k.kept hkp (fun g hg e => by have := (RN3.out.k.lt g hg).1; omega)) (by omega)
                  · exact (RN3.out.h.kept hkp (fun g hg e => by have := (RN3.out.h.lt g hg).1; omega)).mono (by omega)
end Go.Proofs.Ytmoghdpjemidgaa
