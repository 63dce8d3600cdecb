/-
  THE LAW PageCodes.
-/
import Derived.Test.YtdlkebmndjmpdaaPgCt
import Derived.Test.YtdlkebmndjmpdaaPgRn
import Derived.Test.YtdlkebmndjmpdaaPgRf
import Derived.Test.YtdlkebmndjmpdaaPgEb
import Derived.Test.YtdlkebmndjmpdaaPgQ
import Derived.Test.YtdlkebmndjmpdaaPgZ
import Derived.Test.YtdlkebmndjmpdaaPuB
import Derived.Test.YtdlkebmndjmpdaaOpenD
import Derived.Deep.RegionHeldLaw
namespace Go.Proofs.Ytdlkebmndjmpdaa
open Go.RowKit Go.Maps
theorem Ents.front {w : World} {a : Option Addr} {k c : Nat} {l m : List Ent} (h : Ents w (.slice a k c) (l ++ m)) : Ents w (.slice a l.length c) l := by
  obtain ⟨a', c', e, h1, h2, h0, h3⟩ := h
  simp only [Value.slice.injEq] at e
  obtain ⟨rfl, _, rfl⟩ := e
  refine ⟨a, c, rfl, by rw [List.length_append] at h1; omega, h2, h0, fun j hj => ?_⟩
  obtain ⟨b, off, ea, q⟩ := h3 j (by rw [List.length_append]; omega)
  have e2 : (l ++ m).getD j (⟨#[]⟩, ⟨#[]⟩) = l.getD j (⟨#[]⟩, ⟨#[]⟩) := by simp [List.getD, List.getElem?_append_left hj]
  rw [e2] at q
  exact ⟨b, off, ea, q⟩
theorem Ints.front {w : World} {a : Option Addr} {k c : Nat} {l m : List Int} (h : Ints w (.slice a k c) (l ++ m)) : Ints w (.slice a l.length c) l := by
  obtain ⟨a', c', e, h1, h2, h0, h3⟩ := h
  simp only [Value.slice.injEq] at e
  obtain ⟨rfl, _, rfl⟩ := e
  refine ⟨a, c, rfl, by rw [List.length_append] at h1; omega, h2, h0, fun j hj => ?_⟩
  obtain ⟨b, off, ea, q⟩ := h3 j (by rw [List.length_append]; omega)
  have e2 : (l ++ m).getD j 0 = l.getD j 0 := by simp [List.getD, List.getElem?_append_left hj]
  rw [e2] at q
  exact ⟨b, off, ea, q⟩
theorem Strs.front {w : World} {a : Option Addr} {k c : Nat} {l m : List ByteArray} (h : Strs w (.slice a k c) (l ++ m)) : Strs w (.slice a l.length c) l := by
  obtain ⟨a', c', e, h1, h2, h0, h3⟩ := h
  simp only [Value.slice.injEq] at e
  obtain ⟨rfl, _, rfl⟩ := e
  refine ⟨a, c, rfl, by rw [List.length_append] at h1; omega, h2, h0, fun j hj => ?_⟩
  obtain ⟨b, off, ea, q⟩ := h3 j (by rw [List.length_append]; omega)
  have e2 : (l ++ m).getD j ⟨#[]⟩ = l.getD j ⟨#[]⟩ := by simp [List.getD, List.getElem?_append_left hj]
  rw [e2] at q
  exact ⟨b, off, ea, q⟩
set_option maxHeartbeats 8000000 in
set_option maxRecDepth 100000 in
theorem pageCodes_walk (v0 : Value) (n : Nd) (w : World) (hn : Nin w v0 n) (hs : Szs n) :
    Calls Try.prog 5 #[v0] w fun e w' => e = .returned (.bool true) ∧ Below w.heap.size w w' := by
  obtain ⟨nv, rfl, hl⟩ := hn
  obtain ⟨kd, ents, chs, keys, kids, nx, dt⟩ := n
  obtain ⟨ue, uc, uk, uh⟩ := nv
  obtain ⟨ae, ce, q1, _, _⟩ := hl.e.len
  obtain ⟨ac, cc, q2, _, _⟩ := hl.c.len
  obtain ⟨ak, ck, q3, _, _⟩ := hl.k.len
  obtain ⟨ah, ch, q4, _, _⟩ := hl.h.len
  simp only at q1 q2 q3 q4
  subst q1 q2 q3 q4
  have HL := Lib.hid hl
  have HS := Lib.hid hs
  clear hl hs
  show Calls Try.prog 5 #[.agg #[.int .i64 kd, .slice ae ents.length ce, .slice ac chs.length cc, .slice ak keys.length ck, .slice ah kids.length ch, .int .i64 nx, .string dt]] w _
  obtain ⟨b1, hb1⟩ : ∃ b1, b1 = w.heap.size := ⟨_, rfl⟩
  obtain ⟨W0, hW0⟩ : ∃ X, X = w.alloc (.cells #[.int .i64 kd, .slice ae ents.length ce, .slice ac chs.length cc, .slice ak keys.length ck, .slice ah kids.length ch, .int .i64 nx, .string dt] 27) := ⟨_, rfl⟩
  have r1 : W0.heap[b1]? = some (.cells #[.int .i64 kd, .slice ae ents.length ce, .slice ac chs.length cc, .slice ak keys.length ck, .slice ah kids.length ch, .int .i64 nx, .string dt] 27 (0, 0)) := by rw [hW0, hb1]; exact heap_alloc_new _ _
  have B0 : Hid (Below w.heap.size w W0) := Lib.hid (by rw [hW0]; exact (Below.refl _ _).alloc (Nat.le_refl _) _)
  have R1 := Lib.hid r1
  have hb1' := hb1.symm; have hW0' := hW0.symm
  clear hb1 hW0 r1
  go_enter Try.func5, Try.ntmps5
  go_wp2_with fail
  refine (fixed_any W0).mono ?_
  rintro e w1 ⟨rfl, hb⟩
  have B1 : Hid (Below w.heap.size w w1 ∧ w1.heap[b1]? = some (.cells #[.int .i64 kd, .slice ae ents.length ce, .slice ac chs.length cc, .slice ak keys.length ck, .slice ah kids.length ch, .int .i64 nx, .string dt] 27 (0, 0))) := Lib.hid ⟨B0.out.trans (hb.mono B0.out.size), by rw [hb.block _ (lt_of_heap R1.out)]; exact R1.out⟩
  clear hb B0 R1
  obtain ⟨p0, p1, p2, p3, p4, p5, p6⟩ := node_cells B1.out.2
  go_wp2_with fail
  refine (marked_lit kd nx dt ents chs kids keys ae ac ak ah ce cc ck ch w1 (HL.out.below B1.out.1) HS.out.e HS.out.q).mono ?_
  rintro e w2 ⟨be, de, bc, dc, bk, dk, bh, dh, rfl, o2, hb⟩
  clear p0 p1 p2 p3 p4 p5 p6
  obtain ⟨b4, hb4⟩ : ∃ b4, b4 = w2.heap.size := ⟨_, rfl⟩
  obtain ⟨W4, hW4⟩ : ∃ X, X = w2.alloc (.cells #[.int .i64 kd, .slice be (ents.length + 2) de, .slice bc (chs.length + 2) dc, .slice bk (keys.length + 2) dk, .slice bh (kids.length + 2) dh, .int .i64 nx, .string dt] 27) := ⟨_, rfl⟩
  have x4 : Below w2.heap.size w2 W4 := by rw [hW4]; exact (Below.refl _ _).alloc (Nat.le_refl _) _
  have B4 : Hid (Below w.heap.size w W4 ∧ W4.heap[b1]? = some (.cells #[.int .i64 kd, .slice ae ents.length ce, .slice ac chs.length cc, .slice ak keys.length ck, .slice ah kids.length ch, .int .i64 nx, .string dt] 27 (0, 0)) ∧ W4.heap[b4]? = some (.cells #[.int .i64 kd, .slice be (ents.length + 2) de, .slice bc (chs.length + 2) dc, .slice bk (keys.length + 2) dk, .slice bh (kids.length + 2) dh, .int .i64 nx, .string dt] 27 (0, 0)) ∧ Ls W4 ⟨.slice be (ents.length + 2) de, .slice bc (chs.length + 2) dc, .slice bk (keys.length + 2) dk, .slice bh (kids.length + 2) dh⟩ (mkN ⟨kd, ents, chs, keys, kids, nx, dt⟩)) := Lib.hid ⟨(B1.out.1.trans (hb.mono B1.out.1.size)).trans (x4.mono (Nat.le_trans B1.out.1.size hb.size)), by rw [x4.block _ (Nat.lt_of_lt_of_le (lt_of_heap B1.out.2) hb.size), hb.block _ (lt_of_heap B1.out.2)]; exact B1.out.2, by rw [hW4, hb4]; exact heap_alloc_new _ _, (o2.below x4).ls⟩
  have CP : Hid ((ents.length + 2 ≤ de ∧ de ≤ 9223372036854775807) ∧ (chs.length + 2 ≤ dc ∧ dc ≤ 9223372036854775807) ∧ (keys.length + 2 ≤ dk ∧ dk ≤ 9223372036854775807) ∧ (kids.length + 2 ≤ dh ∧ dh ≤ 9223372036854775807)) := Lib.hid (by
    obtain ⟨_, _, e1, u1, t1⟩ := o2.e.ents.len
    obtain ⟨_, _, e2, u2, t2⟩ := o2.c.ints.len
    obtain ⟨_, _, e3, u3, t3⟩ := o2.k.strs.len
    obtain ⟨_, _, e4, u4, t4⟩ := o2.h.ints.len
    unfold maxLen at t1 t2 t3 t4
    simp only [Value.slice.injEq] at e1 e2 e3 e4
    simp only [mkN, List.length_append, List.length_cons, List.length_nil] at u1 u2 u3 u4
    omega)
  obtain ⟨p0, p1, p2, p3, p4, p5, p6⟩ := node_cells B4.out.2.2.1
  have hb4' := hb4.symm; have hW4' := hW4.symm
  clear hb o2 hb4 hW4 x4 B1
  go_wp2_with fail
  refine (cut_lit kd nx dt be bc bk bh ents.length chs.length keys.length kids.length de dc dk dh W4 CP.out.1.1 CP.out.2.1.1 CP.out.2.2.1.1 CP.out.2.2.2.1 CP.out.1.2 CP.out.2.1.2 CP.out.2.2.1.2 CP.out.2.2.2.2).mono ?_
  rintro e w3 ⟨rfl, hb⟩
  clear p0 p1 p2 p3 p4 p5 p6
  obtain ⟨b5, hb5⟩ : ∃ b5, b5 = w3.heap.size := ⟨_, rfl⟩
  obtain ⟨W5, hW5⟩ : ∃ X, X = w3.alloc (.cells #[.int .i64 kd, .slice be ents.length de, .slice bc chs.length dc, .slice bk keys.length dk, .slice bh kids.length dh, .int .i64 nx, .string dt] 27) := ⟨_, rfl⟩
  have x5 : Below W4.heap.size W4 W5 := by rw [hW5]; exact hb.trans (((Below.refl _ _).alloc (Nat.le_refl _) _).mono hb.size)
  have B5 : Hid (Below w.heap.size w W5 ∧ W5.heap[b1]? = some (.cells #[.int .i64 kd, .slice ae ents.length ce, .slice ac chs.length cc, .slice ak keys.length ck, .slice ah kids.length ch, .int .i64 nx, .string dt] 27 (0, 0)) ∧ W5.heap[b4]? = some (.cells #[.int .i64 kd, .slice be (ents.length + 2) de, .slice bc (chs.length + 2) dc, .slice bk (keys.length + 2) dk, .slice bh (kids.length + 2) dh, .int .i64 nx, .string dt] 27 (0, 0)) ∧ Ls W5 ⟨.slice be (ents.length + 2) de, .slice bc (chs.length + 2) dc, .slice bk (keys.length + 2) dk, .slice bh (kids.length + 2) dh⟩ (mkN ⟨kd, ents, chs, keys, kids, nx, dt⟩) ∧ W5.heap[b5]? = some (.cells #[.int .i64 kd, .slice be ents.length de, .slice bc chs.length dc, .slice bk keys.length dk, .slice bh kids.length dh, .int .i64 nx, .string dt] 27 (0, 0))) := Lib.hid ⟨B4.out.1.trans (x5.mono B4.out.1.size), by rw [x5.block _ (lt_of_heap B4.out.2.1)]; exact B4.out.2.1, by rw [x5.block _ (lt_of_heap B4.out.2.2.1)]; exact B4.out.2.2.1, B4.out.2.2.2.below x5, by rw [hW5, hb5]; exact heap_alloc_new _ _⟩
  obtain ⟨p0, p1, p2, p3, p4, p5, p6⟩ := node_cells B5.out.2.1
  have hb5' := hb5.symm; have hW5' := hW5.symm
  clear hb hb5 hW5 x5 B4 CP
  go_wp2_with fail
  refine (copied_lit kd nx dt ents chs kids keys _ _ _ _ W5 (HL.out.below B5.out.1) (by have := HS.out.e; simp only at this; omega) (by have := HS.out.q; simp only at this; omega)).mono ?_
  rintro e w6 ⟨fe, ge, fc, gc, fk, gk, fh, gh, rfl, o6, hb⟩
  clear p0 p1 p2 p3 p4 p5 p6
  obtain ⟨b6, hb6⟩ : ∃ b6, b6 = w6.heap.size := ⟨_, rfl⟩
  obtain ⟨W6, hW6⟩ : ∃ X, X = w6.alloc (.cells #[.int .i64 kd, .slice fe ents.length ge, .slice fc chs.length gc, .slice fk keys.length gk, .slice fh kids.length gh, .int .i64 nx, .string dt] 27) := ⟨_, rfl⟩
  have y6 : Below w6.heap.size w6 W6 := by rw [hW6]; exact (Below.refl _ _).alloc (Nat.le_refl _) _
  have x6 : Below W5.heap.size W5 W6 := hb.trans (y6.mono hb.size)
  have B6 : Hid (∀ W, Below W6.heap.size W6 W → Below w.heap.size w W ∧ W.heap[b1]? = some (.cells #[.int .i64 kd, .slice ae ents.length ce, .slice ac chs.length cc, .slice ak keys.length ck, .slice ah kids.length ch, .int .i64 nx, .string dt] 27 (0, 0)) ∧ W.heap[b4]? = some (.cells #[.int .i64 kd, .slice be (ents.length + 2) de, .slice bc (chs.length + 2) dc, .slice bk (keys.length + 2) dk, .slice bh (kids.length + 2) dh, .int .i64 nx, .string dt] 27 (0, 0)) ∧ Ls W ⟨.slice be (ents.length + 2) de, .slice bc (chs.length + 2) dc, .slice bk (keys.length + 2) dk, .slice bh (kids.length + 2) dh⟩ (mkN ⟨kd, ents, chs, keys, kids, nx, dt⟩) ∧ W.heap[b5]? = some (.cells #[.int .i64 kd, .slice be ents.length de, .slice bc chs.length dc, .slice bk keys.length dk, .slice bh kids.length dh, .int .i64 nx, .string dt] 27 (0, 0)) ∧ W.heap[b6]? = some (.cells #[.int .i64 kd, .slice fe ents.length ge, .slice fc chs.length gc, .slice fk keys.length gk, .slice fh kids.length gh, .int .i64 nx, .string dt] 27 (0, 0)) ∧ Ls W ⟨.slice fe ents.length ge, .slice fc chs.length gc, .slice fk keys.length gk, .slice fh kids.length gh⟩ ⟨kd, ents, chs, keys, kids, nx, dt⟩ ∧ Ls W ⟨.slice be ents.length de, .slice bc chs.length dc, .slice bk keys.length dk, .slice bh kids.length dh⟩ ⟨kd, ents, chs, keys, kids, nx, dt⟩) := Lib.hid (fun W hW => by
    have xW : Below W5.heap.size W5 W := x6.trans (hW.mono x6.size)
    have lm := B5.out.2.2.2.1.below xW
    have z6 : W6.heap[b6]? = some (.cells #[.int .i64 kd, .slice fe ents.length ge, .slice fc chs.length gc, .slice fk keys.length gk, .slice fh kids.length gh, .int .i64 nx, .string dt] 27 (0, 0)) := by rw [hW6, hb6]; exact heap_alloc_new _ _
    exact ⟨B5.out.1.trans (xW.mono B5.out.1.size), by rw [xW.block _ (lt_of_heap B5.out.2.1)]; exact B5.out.2.1, by rw [xW.block _ (lt_of_heap B5.out.2.2.1)]; exact B5.out.2.2.1, lm, by rw [xW.block _ (lt_of_heap B5.out.2.2.2.2)]; exact B5.out.2.2.2.2, by rw [hW.block _ (lt_of_heap z6)]; exact z6, ((o6.below y6).ls).below hW, ⟨lm.e.front, lm.c.front, lm.k.front, lm.h.front⟩⟩)
  have BR := Lib.hid (Below.refl W6.heap.size W6)
  obtain ⟨p0, p1, p2, p3, p4, p5, p6⟩ := node_cells (B6.out W6 BR.out).2.2.2.2.1
  have hb6' := hb6.symm; have hW6' := hW6.symm
  clear hb o6 hb6 hW6 x6 y6 B5
  go_wp2_with fail
  refine (Size_any ⟨kd, ents, chs, keys, kids, nx, dt⟩ ⟨.slice be ents.length de, .slice bc chs.length dc, .slice bk keys.length dk, .slice bh kids.length dh⟩ W6 (B6.out W6 BR.out).2.2.2.2.2.2.2 HS.out.z).mono ?_
  rintro e w7 ⟨rfl, hb⟩
  obtain ⟨SZ, hSZ⟩ : ∃ SZ, SZ = sizeN ⟨kd, ents, chs, keys, kids, nx, dt⟩ := ⟨_, rfl⟩
  rw [← hSZ]
  have HSZ := Lib.hid hSZ
  clear hSZ p0 p1 p2 p3 p4 p5 p6 BR
  have B7 := Lib.hid hb
  clear hb
  obtain ⟨p0, p1, p2, p3, p4, p5, p6⟩ := node_cells (B6.out w7 B7.out).2.2.2.2.1
  go_wp2_with fail
  refine (Fits_any ⟨kd, ents, chs, keys, kids, nx, dt⟩ ⟨.slice be ents.length de, .slice bc chs.length dc, .slice bk keys.length dk, .slice bh kids.length dh⟩ w7 (B6.out w7 B7.out).2.2.2.2.2.2.2 HS.out.z).mono ?_
  rintro e w8 ⟨rfl, hb⟩
  clear p0 p1 p2 p3 p4 p5 p6
  have B8 := Lib.hid (B7.out.trans (hb.mono B7.out.size))
  clear hb B7
  obtain ⟨p0, p1, p2, p3, p4, p5, p6⟩ := node_cells (B6.out w8 B8.out).2.2.2.2.1
  cases hf : fitB ⟨kd, ents, chs, keys, kids, nx, dt⟩ with
  | true =>
    have HF := Lib.hid hf
    clear hf
    go_wp2_with fail
    refine (encode_yes ⟨kd, ents, chs, keys, kids, nx, dt⟩ ⟨.slice be ents.length de, .slice bc chs.length dc, .slice bk keys.length dk, .slice bh kids.length dh⟩ w8 (B6.out w8 B8.out).2.2.2.2.2.2.2 HS.out.z HF.out).mono ?_
    rintro e w9 ⟨gb, rfl, o9, hb⟩
    clear p0 p1 p2 p3 p4 p5 p6
    have B9 := Lib.hid (B8.out.trans (hb.mono B8.out.size))
    clear hb B8
    obtain ⟨p0, p1, p2, p3, p4, p5, p6⟩ := node_cells (B6.out w9 B9.out).2.2.2.2.2.1
    have O9 := Lib.hid o9.bytes
    clear o9
    go_wp2_with fail
    refine (renc_yes ⟨kd, ents, chs, keys, kids, nx, dt⟩ ⟨.slice fe ents.length ge, .slice fc chs.length gc, .slice fk keys.length gk, .slice fh kids.length gh⟩ w9 (B6.out w9 B9.out).2.2.2.2.2.2.1 HS.out.z HF.out).mono ?_
    rintro e w10 ⟨v10, rfl, o10, hb⟩
    have D10 := Lib.hid (And.intro (O9.out.below hb) o10.bytes)
    obtain ⟨a10, c10, h10, _, _⟩ := o10.bytes.len
    subst h10
    clear o10 O9
    clear p0 p1 p2 p3 p4 p5 p6
    have B10 := Lib.hid (B9.out.trans (hb.mono B9.out.size))
    clear hb B9
    obtain ⟨p0, p1, p2, p3, p4, p5, p6⟩ := node_cells (B6.out w10 B10.out).2.2.2.2.2.1
    go_wp2_with fail
    refine (rSize_any ⟨kd, ents, chs, keys, kids, nx, dt⟩ ⟨.slice fe ents.length ge, .slice fc chs.length gc, .slice fk keys.length gk, .slice fh kids.length gh⟩ w10 (B6.out w10 B10.out).2.2.2.2.2.2.1 HS.out.z).mono ?_
    rintro e w11 ⟨rfl, hb⟩
    rw [← HSZ.out]
    clear p0 p1 p2 p3 p4 p5 p6
    have B11 := Lib.hid (B10.out.trans (hb.mono B10.out.size))
    have D11 := Lib.hid (And.intro (D10.out.1.below hb) (D10.out.2.below hb))
    clear hb B10
    obtain ⟨p0, p1, p2, p3, p4, p5, p6⟩ := node_cells (B6.out w11 B11.out).2.2.2.2.2.1
    go_wp2_with fail
    refine (rFits_any ⟨kd, ents, chs, keys, kids, nx, dt⟩ ⟨.slice fe ents.length ge, .slice fc chs.length gc, .slice fk keys.length gk, .slice fh kids.length gh⟩ w11 (B6.out w11 B11.out).2.2.2.2.2.2.1 HS.out.z).mono ?_
    rintro e w12 ⟨rfl, hb⟩
    rw [HF.out]
    clear p0 p1 p2 p3 p4 p5 p6
    have B12 := Lib.hid (B11.out.trans (hb.mono B11.out.size))
    have D12 := Lib.hid (And.intro (D11.out.1.below hb) (D11.out.2.below hb))
    clear hb B11
    go_wp2_with fail
    refine (sameW_any _ _ (encN ⟨kd, ents, chs, keys, kids, nx, dt⟩) (encN ⟨kd, ents, chs, keys, kids, nx, dt⟩) w12 D12.out.1 D12.out.2).mono ?_
    rintro e w13 ⟨rfl, hww⟩
    obtain rfl := hww.symm
    rw [decide_eq_true rfl]
    have CS : Hid (∀ W, Below w12.heap.size w12 W → (W.cell? ⟨b4, 0, none⟩ = some (.int .i64 kd) ∧ W.cell? ⟨b4, 1, none⟩ = some (.slice be (ents.length + 2) de) ∧ W.cell? ⟨b4, 2, none⟩ = some (.slice bc (chs.length + 2) dc) ∧ W.cell? ⟨b4, 3, none⟩ = some (.slice bk (keys.length + 2) dk) ∧ W.cell? ⟨b4, 4, none⟩ = some (.slice bh (kids.length + 2) dh) ∧ W.cell? ⟨b4, 5, none⟩ = some (.int .i64 nx) ∧ W.cell? ⟨b4, 6, none⟩ = some (.string dt)) ∧ (W.cell? ⟨b1, 0, none⟩ = some (.int .i64 kd) ∧ W.cell? ⟨b1, 1, none⟩ = some (.slice ae ents.length ce) ∧ W.cell? ⟨b1, 2, none⟩ = some (.slice ac chs.length cc) ∧ W.cell? ⟨b1, 3, none⟩ = some (.slice ak keys.length ck) ∧ W.cell? ⟨b1, 4, none⟩ = some (.slice ah kids.length ch) ∧ W.cell? ⟨b1, 5, none⟩ = some (.int .i64 nx) ∧ W.cell? ⟨b1, 6, none⟩ = some (.string dt))) := Lib.hid (fun W hW => by
      have q := B6.out W (B12.out.trans (hW.mono B12.out.size))
      exact ⟨node_cells q.2.2.1, node_cells q.2.1⟩)
    go_wp2_with fail
    have B0 : Hid (Below w12.heap.size w12 w12.drew) := Lib.hid (below_drawn w12 1)
    have MK : Hid (∀ W, Below w12.heap.size w12 W → Calls Try.prog 19 #[.agg #[.int .i64 kd, .slice ae ents.length ce, .slice ac chs.length cc, .slice ak keys.length ck, .slice ah kids.length ch, .int .i64 nx, .string dt]] W fun e w' => ∃ ie je ic jc ik jk ih jh, e = .returned (.agg #[.int .i64 kd, .slice ie (ents.length + 2) je, .slice ic (chs.length + 2) jc, .slice ik (keys.length + 2) jk, .slice ih (kids.length + 2) jh, .int .i64 nx, .string dt]) ∧ Ls w' ⟨.slice ie (ents.length + 2) je, .slice ic (chs.length + 2) jc, .slice ik (keys.length + 2) jk, .slice ih (kids.length + 2) jh⟩ (mkN ⟨kd, ents, chs, keys, kids, nx, dt⟩) ∧ Below w12.heap.size w12 w') := Lib.hid (fun W hW => by
      refine (marked_lit kd nx dt ents chs kids keys ae ac ak ah ce cc ck ch W (HL.out.below (B6.out W (B12.out.trans (hW.mono B12.out.size))).1) HS.out.e HS.out.q).mono ?_
      rintro e w' ⟨ie, je, ic, jc, ik, jk, ih, jh, rfl, o, hb⟩
      exact ⟨ie, je, ic, jc, ik, jk, ih, jh, rfl, o.ls, hW.trans (hb.mono hW.size)⟩)
    have SN : Hid (∀ W ie je ic jc ik jk ih jh, Below w12.heap.size w12 W → Ls W ⟨.slice ie (ents.length + 2) je, .slice ic (chs.length + 2) jc, .slice ik (keys.length + 2) jk, .slice ih (kids.length + 2) jh⟩ (mkN ⟨kd, ents, chs, keys, kids, nx, dt⟩) → Calls Try.prog 14 #[.agg #[.int .i64 kd, .slice be (ents.length + 2) de, .slice bc (chs.length + 2) dc, .slice bk (keys.length + 2) dk, .slice bh (kids.length + 2) dh, .int .i64 nx, .string dt], .agg #[.int .i64 kd, .slice ie (ents.length + 2) je, .slice ic (chs.length + 2) jc, .slice ik (keys.length + 2) jk, .slice ih (kids.length + 2) jh, .int .i64 nx, .string dt]] W fun e w' => e = .returned (.bool true) ∧ Below w12.heap.size w12 w') := Lib.hid (fun W ie je ic jc ik jk ih jh hW hl => (sameNode_yes (mkN ⟨kd, ents, chs, keys, kids, nx, dt⟩) ⟨.slice be (ents.length + 2) de, .slice bc (chs.length + 2) dc, .slice bk (keys.length + 2) dk, .slice bh (kids.length + 2) dh⟩ ⟨.slice ie (ents.length + 2) je, .slice ic (chs.length + 2) jc, .slice ik (keys.length + 2) jk, .slice ih (kids.length + 2) jh⟩ W (B6.out W (B12.out.trans (hW.mono B12.out.size))).2.2.2.1 hl).mono (fun _ _ q => ⟨q.1, hW.trans (q.2.mono hW.size)⟩))
    go_region_held (fun W : World => (W.cell? ⟨b4, 0, none⟩ = some (.int .i64 kd) ∧ W.cell? ⟨b4, 1, none⟩ = some (.slice be (ents.length + 2) de) ∧ W.cell? ⟨b4, 2, none⟩ = some (.slice bc (chs.length + 2) dc) ∧ W.cell? ⟨b4, 3, none⟩ = some (.slice bk (keys.length + 2) dk) ∧ W.cell? ⟨b4, 4, none⟩ = some (.slice bh (kids.length + 2) dh) ∧ W.cell? ⟨b4, 5, none⟩ = some (.int .i64 nx) ∧ W.cell? ⟨b4, 6, none⟩ = some (.string dt)) ∧ (W.cell? ⟨b1, 0, none⟩ = some (.int .i64 kd) ∧ W.cell? ⟨b1, 1, none⟩ = some (.slice ae ents.length ce) ∧ W.cell? ⟨b1, 2, none⟩ = some (.slice ac chs.length cc) ∧ W.cell? ⟨b1, 3, none⟩ = some (.slice ak keys.length ck) ∧ W.cell? ⟨b1, 4, none⟩ = some (.slice ah kids.length ch) ∧ W.cell? ⟨b1, 5, none⟩ = some (.int .i64 nx) ∧ W.cell? ⟨b1, 6, none⟩ = some (.string dt))) (first | exact CS.out _ hB15 | exact CS.out _ hB14 | exact CS.out _ B0.out) (first | (go_at_call 19; refine (MK.out _ B0.out).mono ?_; rintro r w14 ⟨ie, je, ic, jc, ik, jk, ih, jh, rfl, l14, hB14⟩) | (go_at_call 14; refine (SN.out w14 ie je ic jc ik jk ih jh hB14 l14).mono ?_; rintro r w15 ⟨rfl, hB15⟩))
    have BF : Hid (Below w.heap.size w w15) := Lib.hid (B6.out w15 (B12.out.trans (hB15.mono B12.out.size))).1
    clear hB14 hB15 l14
    go_wp2_with fail
    go_ret
    exact ⟨rfl, BF.out⟩

  | false =>
    have HF := Lib.hid hf
    clear hf
    go_wp2_with fail
    refine (encode_no ⟨kd, ents, chs, keys, kids, nx, dt⟩ ⟨.slice be ents.length de, .slice bc chs.length dc, .slice bk keys.length dk, .slice bh kids.length dh⟩ w8 (B6.out w8 B8.out).2.2.2.2.2.2.2 HS.out.z HF.out).mono ?_
    rintro e w9 ⟨rfl, hb⟩
    clear p0 p1 p2 p3 p4 p5 p6
    have B9 := Lib.hid (B8.out.trans (hb.mono B8.out.size))
    clear hb B8
    obtain ⟨p0, p1, p2, p3, p4, p5, p6⟩ := node_cells (B6.out w9 B9.out).2.2.2.2.2.1


    go_wp2_with fail
    refine (renc_no ⟨kd, ents, chs, keys, kids, nx, dt⟩ ⟨.slice fe ents.length ge, .slice fc chs.length gc, .slice fk keys.length gk, .slice fh kids.length gh⟩ w9 (B6.out w9 B9.out).2.2.2.2.2.2.1 HS.out.z HF.out).mono ?_
    rintro e w10 ⟨rfl, hb⟩
    clear p0 p1 p2 p3 p4 p5 p6
    have B10 := Lib.hid (B9.out.trans (hb.mono B9.out.size))
    clear hb B9
    obtain ⟨p0, p1, p2, p3, p4, p5, p6⟩ := node_cells (B6.out w10 B10.out).2.2.2.2.2.1
    go_wp2_with fail
    refine (rSize_any ⟨kd, ents, chs, keys, kids, nx, dt⟩ ⟨.slice fe ents.length ge, .slice fc chs.length gc, .slice fk keys.length gk, .slice fh kids.length gh⟩ w10 (B6.out w10 B10.out).2.2.2.2.2.2.1 HS.out.z).mono ?_
    rintro e w11 ⟨rfl, hb⟩
    rw [← HSZ.out]
    clear p0 p1 p2 p3 p4 p5 p6
    have B11 := Lib.hid (B10.out.trans (hb.mono B10.out.size))

    clear hb B10
    obtain ⟨p0, p1, p2, p3, p4, p5, p6⟩ := node_cells (B6.out w11 B11.out).2.2.2.2.2.1
    go_wp2_with fail
    refine (rFits_any ⟨kd, ents, chs, keys, kids, nx, dt⟩ ⟨.slice fe ents.length ge, .slice fc chs.length gc, .slice fk keys.length gk, .slice fh kids.length gh⟩ w11 (B6.out w11 B11.out).2.2.2.2.2.2.1 HS.out.z).mono ?_
    rintro e w12 ⟨rfl, hb⟩
    rw [HF.out]
    clear p0 p1 p2 p3 p4 p5 p6
    have B12 := Lib.hid (B11.out.trans (hb.mono B11.out.size))

    clear hb B11
    go_wp2_with fail
    refine (sameW_any _ _ [] [] w12 (Bytes.nil w12) (Bytes.nil w12)).mono ?_
    rintro e w13 ⟨rfl, hww⟩
    obtain rfl := hww.symm
    rw [decide_eq_true rfl]
    have CS : Hid (∀ W, Below w12.heap.size w12 W → (W.cell? ⟨b4, 0, none⟩ = some (.int .i64 kd) ∧ W.cell? ⟨b4, 1, none⟩ = some (.slice be (ents.length + 2) de) ∧ W.cell? ⟨b4, 2, none⟩ = some (.slice bc (chs.length + 2) dc) ∧ W.cell? ⟨b4, 3, none⟩ = some (.slice bk (keys.length + 2) dk) ∧ W.cell? ⟨b4, 4, none⟩ = some (.slice bh (kids.length + 2) dh) ∧ W.cell? ⟨b4, 5, none⟩ = some (.int .i64 nx) ∧ W.cell? ⟨b4, 6, none⟩ = some (.string dt)) ∧ (W.cell? ⟨b1, 0, none⟩ = some (.int .i64 kd) ∧ W.cell? ⟨b1, 1, none⟩ = some (.slice ae ents.length ce) ∧ W.cell? ⟨b1, 2, none⟩ = some (.slice ac chs.length cc) ∧ W.cell? ⟨b1, 3, none⟩ = some (.slice ak keys.length ck) ∧ W.cell? ⟨b1, 4, none⟩ = some (.slice ah kids.length ch) ∧ W.cell? ⟨b1, 5, none⟩ = some (.int .i64 nx) ∧ W.cell? ⟨b1, 6, none⟩ = some (.string dt))) := Lib.hid (fun W hW => by
      have q := B6.out W (B12.out.trans (hW.mono B12.out.size))
      exact ⟨node_cells q.2.2.1, node_cells q.2.1⟩)
    go_wp2_with fail
    have B0 : Hid (Below w12.heap.size w12 w12.drew) := Lib.hid (below_drawn w12 1)
    have MK : Hid (∀ W, Below w12.heap.size w12 W → Calls Try.prog 19 #[.agg #[.int .i64 kd, .slice ae ents.length ce, .slice ac chs.length cc, .slice ak keys.length ck, .slice ah kids.length ch, .int .i64 nx, .string dt]] W fun e w' => ∃ ie je ic jc ik jk ih jh, e = .returned (.agg #[.int .i64 kd, .slice ie (ents.length + 2) je, .slice ic (chs.length + 2) jc, .slice ik (keys.length + 2) jk, .slice ih (kids.length + 2) jh, .int .i64 nx, .string dt]) ∧ Ls w' ⟨.slice ie (ents.length + 2) je, .slice ic (chs.length + 2) jc, .slice ik (keys.length + 2) jk, .slice ih (kids.length + 2) jh⟩ (mkN ⟨kd, ents, chs, keys, kids, nx, dt⟩) ∧ Below w12.heap.size w12 w') := Lib.hid (fun W hW => by
      refine (marked_lit kd nx dt ents chs kids keys ae ac ak ah ce cc ck ch W (HL.out.below (B6.out W (B12.out.trans (hW.mono B12.out.size))).1) HS.out.e HS.out.q).mono ?_
      rintro e w' ⟨ie, je, ic, jc, ik, jk, ih, jh, rfl, o, hb⟩
      exact ⟨ie, je, ic, jc, ik, jk, ih, jh, rfl, o.ls, hW.trans (hb.mono hW.size)⟩)
    have SN : Hid (∀ W ie je ic jc ik jk ih jh, Below w12.heap.size w12 W → Ls W ⟨.slice ie (ents.length + 2) je, .slice ic (chs.length + 2) jc, .slice ik (keys.length + 2) jk, .slice ih (kids.length + 2) jh⟩ (mkN ⟨kd, ents, chs, keys, kids, nx, dt⟩) → Calls Try.prog 14 #[.agg #[.int .i64 kd, .slice be (ents.length + 2) de, .slice bc (chs.length + 2) dc, .slice bk (keys.length + 2) dk, .slice bh (kids.length + 2) dh, .int .i64 nx, .string dt], .agg #[.int .i64 kd, .slice ie (ents.length + 2) je, .slice ic (chs.length + 2) jc, .slice ik (keys.length + 2) jk, .slice ih (kids.length + 2) jh, .int .i64 nx, .string dt]] W fun e w' => e = .returned (.bool true) ∧ Below w12.heap.size w12 w') := Lib.hid (fun W ie je ic jc ik jk ih jh hW hl => (sameNode_yes (mkN ⟨kd, ents, chs, keys, kids, nx, dt⟩) ⟨.slice be (ents.length + 2) de, .slice bc (chs.length + 2) dc, .slice bk (keys.length + 2) dk, .slice bh (kids.length + 2) dh⟩ ⟨.slice ie (ents.length + 2) je, .slice ic (chs.length + 2) jc, .slice ik (keys.length + 2) jk, .slice ih (kids.length + 2) jh⟩ W (B6.out W (B12.out.trans (hW.mono B12.out.size))).2.2.2.1 hl).mono (fun _ _ q => ⟨q.1, hW.trans (q.2.mono hW.size)⟩))
    go_region_held (fun W : World => (W.cell? ⟨b4, 0, none⟩ = some (.int .i64 kd) ∧ W.cell? ⟨b4, 1, none⟩ = some (.slice be (ents.length + 2) de) ∧ W.cell? ⟨b4, 2, none⟩ = some (.slice bc (chs.length + 2) dc) ∧ W.cell? ⟨b4, 3, none⟩ = some (.slice bk (keys.length + 2) dk) ∧ W.cell? ⟨b4, 4, none⟩ = some (.slice bh (kids.length + 2) dh) ∧ W.cell? ⟨b4, 5, none⟩ = some (.int .i64 nx) ∧ W.cell? ⟨b4, 6, none⟩ = some (.string dt)) ∧ (W.cell? ⟨b1, 0, none⟩ = some (.int .i64 kd) ∧ W.cell? ⟨b1, 1, none⟩ = some (.slice ae ents.length ce) ∧ W.cell? ⟨b1, 2, none⟩ = some (.slice ac chs.length cc) ∧ W.cell? ⟨b1, 3, none⟩ = some (.slice ak keys.length ck) ∧ W.cell? ⟨b1, 4, none⟩ = some (.slice ah kids.length ch) ∧ W.cell? ⟨b1, 5, none⟩ = some (.int .i64 nx) ∧ W.cell? ⟨b1, 6, none⟩ = some (.string dt))) (first | exact CS.out _ hB15 | exact CS.out _ hB14 | exact CS.out _ B0.out) (first | (go_at_call 19; refine (MK.out _ B0.out).mono ?_; rintro r w14 ⟨ie, je, ic, jc, ik, jk, ih, jh, rfl, l14, hB14⟩) | (go_at_call 14; refine (SN.out w14 ie je ic jc ik jk ih jh hB14 l14).mono ?_; rintro r w15 ⟨rfl, hB15⟩))
    have BF : Hid (Below w.heap.size w w15) := Lib.hid (B6.out w15 (B12.out.trans (hB15.mono B12.out.size))).1
    clear hB14 hB15 l14
    go_wp2_with fail
    go_ret
    exact ⟨rfl, BF.out⟩

end Go.Proofs.Ytdlkebmndjmpdaa
