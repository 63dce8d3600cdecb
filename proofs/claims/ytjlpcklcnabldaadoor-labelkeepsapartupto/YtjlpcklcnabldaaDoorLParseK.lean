/-
  Parse, at the laws fixed text.
-/
import Derived.Test.YtjlpcklcnabldaaDoorLReadK
namespace Go.Proofs.YtjlpcklcnabldaaDoor.L
open Go.RowKit
theorem spl_t : Lib.splitB ⟨#[44]⟩ 0 8 ⟨#[97, 32, 105, 110, 32, 40, 120, 32, 121, 41, 44, 33, 98]⟩ = [⟨#[97, 32, 105, 110, 32, 40, 120, 32, 121, 41]⟩, ⟨#[33, 98]⟩] := by kernel_rfl
theorem cells_t : Lib.cellsOf [⟨#[97, 32, 105, 110, 32, 40, 120, 32, 121, 41]⟩, ⟨#[33, 98]⟩] 9 = #[.string ⟨#[97, 32, 105, 110, 32, 40, 120, 32, 121, 41]⟩, .string ⟨#[33, 98]⟩, .string ⟨#[]⟩, .string ⟨#[]⟩, .string ⟨#[]⟩, .string ⟨#[]⟩, .string ⟨#[]⟩, .string ⟨#[]⟩, .string ⟨#[]⟩] := by kernel_rfl
/-- Three cells of a block laid anew. -/
def set3 (w : World) (b o : Nat) (x y z : Value) : World := ((w.setCell ⟨b, o, none⟩ x).setCell ⟨b, o + 1, none⟩ y).setCell ⟨b, o + 2, none⟩ z
theorem set3_other {w : World} {b o : Nat} {x y z : Value} {p : Addr} (h : p.block ≠ b ∨ (p.off < o ∨ o + 2 < p.off)) : (set3 w b o x y z).cell? p = w.cell? p := by
  unfold set3
  rw [World.cell?_setCell_other _ _ _ _ (by intro e; subst e; simp at h; omega), World.cell?_setCell_other _ _ _ _ (by intro e; subst e; simp at h; omega), World.cell?_setCell_other _ _ _ _ (by intro e; subst e; simp at h; omega)]
theorem set3_frozen {w : World} {b o : Nat} {x y z : Value} {p : Addr} : (set3 w b o x y z).frozen? p = w.frozen? p := by
  unfold set3
  rw [World.frozen?_setCell, World.frozen?_setCell, World.frozen?_setCell]
theorem set3_size (w : World) (b o : Nat) (x y z : Value) : (set3 w b o x y z).heap.size = w.heap.size := by simp [set3]
theorem set3_at {w : World} {b o : Nat} {x y z : Value} (h0 : (w.cell? ⟨b, o, none⟩).isSome = true) (h1 : (w.cell? ⟨b, o + 1, none⟩).isSome = true) (h2 : (w.cell? ⟨b, o + 2, none⟩).isSome = true) :
    (set3 w b o x y z).cell? ⟨b, o, none⟩ = some x ∧ (set3 w b o x y z).cell? ⟨b, o + 1, none⟩ = some y ∧ (set3 w b o x y z).cell? ⟨b, o + 2, none⟩ = some z := by
  unfold set3
  refine ⟨?_, ?_, ?_⟩
  · rw [World.cell?_setCell_other _ _ _ _ (by intro e; injection e; omega), World.cell?_setCell_other _ _ _ _ (by intro e; injection e; omega)]
    exact World.cell?_setCell_same' _ _ _ h0
  · rw [World.cell?_setCell_other _ _ _ _ (by intro e; injection e; omega)]
    exact World.cell?_setCell_same' _ _ _ (by rw [World.cell?_setCell_other _ _ _ _ (by intro e; injection e; omega)]; exact h1)
  · exact World.cell?_setCell_same' _ _ _ (by rw [World.cell?_setCell_other _ _ _ _ (by intro e; injection e; omega), World.cell?_setCell_other _ _ _ _ (by intro e; injection e; omega)]; exact h2)
theorem set3_below {B : Nat} {a w : World} (h : Below B a w) {b : Nat} (hb : B ≤ b) (o : Nat) (x y z : Value) : Below B a (set3 w b o x y z) :=
  ((h.setCell (p := ⟨b, o, none⟩) hb _).setCell (p := ⟨b, o + 1, none⟩) hb _).setCell (p := ⟨b, o + 2, none⟩) hb _
theorem terms_k (v : Value) : termsB [⟨⟨#[97]⟩, 0, v, [⟨#[120]⟩, ⟨#[121]⟩]⟩, ⟨⟨#[98]⟩, 3, .slice none 0 0, []⟩] = true := by rfl
theorem info_trm : (Tryd.prog.info? 36).map (fun i => (i.zero, i.size, i.bytes)) = some (some (.agg #[.string ⟨#[]⟩, .int .i64 0, .slice none 0 0]), 3, 48) := by kernel_rfl
theorem made_two : madeCells (Value.agg #[.string ⟨#[]⟩, .int .i64 0, .slice none 0 0]).cells 6 = #[.string ⟨#[]⟩, .int .i64 0, .slice none 0 0, .string ⟨#[]⟩, .int .i64 0, .slice none 0 0] := by kernel_rfl
theorem make_two (w : World) : (Instr.makeSlice 31 (.int .i64 2) (.int .i64 2)).run Tryd.prog w = .ok (.slice (some ⟨w.heap.size, 0, none⟩) 2 2) (w.alloc (.cells #[.string ⟨#[]⟩, .int .i64 0, .slice none 0 0, .string ⟨#[]⟩, .int .i64 0, .slice none 0 0] 36)) := by
  obtain ⟨i0, hi, hz0, hz1, hz2⟩ := info_parts info_trm
  have h := run_make (P := Tryd.prog) w 31 36 i0 _ Tryd.underlying31 hi hz0 .i64 .i64 2 2 (by omega) (by omega) (by rw [hz2]; omega) (by omega)
  rw [hz1] at h
  rw [← made_two]
  exact h
set_option maxHeartbeats 4000000 in
set_option maxRecDepth 100000 in
theorem parse_k (w : World) (hm : HasM w) : Calls Tryd.prog 10 #[.string ⟨#[97, 32, 105, 110, 32, 40, 120, 32, 121, 41, 44, 33, 98]⟩] w fun e w' => ∃ g v, e = .returned (.tuple #[.slice (some ⟨g, 0, none⟩) 2 2, .int .i64 0]) ∧ w'.cell? ⟨g, 1, none⟩ = some (.int .i64 0) ∧ w'.cell? ⟨g, 2, none⟩ = some v ∧ (∃ a cap, v = .slice a 2 cap) ∧ w'.cell? ⟨g, 4, none⟩ = some (.int .i64 3) ∧ Below w.heap.size w w' := by
  have H := Lib.hid hm
  clear hm
  go_enter Tryd.func10, Tryd.ntmps10
  go_wp2_with fail
  obtain ⟨m, hm⟩ := H.out
  refine (Tryd.strings_SplitN ⟨#[97, 32, 105, 110, 32, 40, 120, 32, 121, 41, 44, 33, 98]⟩ ⟨#[44]⟩ 9 m _ (by decide) hm (by decide) (by decide) (by decide)).mono ?_
  rintro e w2 ⟨rfl, hw2⟩
  rw [show min 9 ((⟨#[97, 32, 105, 110, 32, 40, 120, 32, 121, 41, 44, 33, 98]⟩ : ByteArray).size + 1) = 9 by decide, show (9 - 1) = 8 from rfl, spl_t] at *
  rw [cells_t] at hw2
  have s0 : w2.cell? ⟨w.heap.size, 0, none⟩ = some (.string ⟨#[97, 32, 105, 110, 32, 40, 120, 32, 121, 41]⟩) := by rw [hw2]; go_simp
  have s1 : w2.cell? ⟨w.heap.size, 1, none⟩ = some (.string ⟨#[33, 98]⟩) := by rw [hw2]; go_simp
  have B2 : Hid (Below w.heap.size w w2) := Lib.hid (by rw [hw2]; exact (Below.refl _ w).alloc (Nat.le_refl _) _)
  clear hw2 hm
  simp only [List.length_cons, List.length_nil]
  have hlt2 : w.heap.size < w2.heap.size := block_lt_of_cell s0
  have mk := make_two w2
  have A2 := Lib.hid ((Below.refl _ w2).alloc (Nat.le_refl _) (.cells #[.string ⟨#[]⟩, .int .i64 0, .slice none 0 0, .string ⟨#[]⟩, .int .i64 0, .slice none 0 0] 36))
  have t0 := (A2.out.cell (block_lt_of_cell s0)).trans s0
  have t1 := (A2.out.cell (block_lt_of_cell s1)).trans s1
  have H2 := Lib.hid ((H.out.below B2.out).below A2.out)
  clear s0 s1
  obtain ⟨u2, hu2⟩ : ∃ u2, u2 = w2.alloc (.cells #[.string ⟨#[]⟩, .int .i64 0, .slice none 0 0, .string ⟨#[]⟩, .int .i64 0, .slice none 0 0] 36) := ⟨_, rfl⟩
  have U := Lib.hid hu2
  rw [← hu2] at mk t0 t1 H2 A2
  clear hu2
  go_wp2_with fail
  clear mk
  refine wp_loop_rounds 3 ?_
  rw [rounds_succ]
  go_wp2_with fail
  refine (read_a _ H2.out).mono ?_
  rintro e w3 ⟨g, rfl, hg, x0, x1, hb⟩
  have hz2 : w2.heap.size < u2.heap.size := by rw [U.out]; simp
  have z : ∀ j u, #[Value.string ⟨#[]⟩, .int .i64 0, .slice none 0 0, .string ⟨#[]⟩, .int .i64 0, .slice none 0 0][j]? = some u → w3.cell? ⟨w2.heap.size, j, none⟩ = some u ∧ w3.frozen? ⟨w2.heap.size, j, none⟩ = false := by
    intro j u hj
    rw [hb.cell (p := ⟨w2.heap.size, j, none⟩) hz2, hb.frozen (p := ⟨w2.heap.size, j, none⟩) hz2, U.out]
    exact ⟨by rw [World.cell?_alloc_new]; exact hj, by simp⟩
  have z0 := z 0 _ rfl
  have z1 := z 1 _ rfl
  have z2 := z 2 _ rfl
  have z3 := z 3 _ rfl
  have z4 := z 4 _ rfl
  have z5 := z 5 _ rfl
  have B3 := Lib.hid (B2.out.trans ((A2.out.trans (hb.mono A2.out.size)).mono B2.out.size))
  have y1 := (hb.cell (block_lt_of_cell t1)).trans t1
  have G3 : Hid (u2.heap.size ≤ g ∧ g < w3.heap.size) := ⟨hg, block_lt_of_cell x0⟩
  clear z hb hg t0 t1
  obtain ⟨X, hX⟩ : ∃ X, X = w3.alloc (.cells #[.string ⟨#[97]⟩, .int .i64 0, .slice (some ⟨g, 0, none⟩) 2 4] 36) := ⟨_, rfl⟩
  have AX := Lib.hid ((Below.refl _ w3).alloc (Nat.le_refl _) (.cells #[.string ⟨#[97]⟩, .int .i64 0, .slice (some ⟨g, 0, none⟩) 2 4] 36))
  rw [← hX] at AX
  have l2 := block_lt_of_cell z0.1
  have q : ∀ j u, w3.cell? ⟨w2.heap.size, j, none⟩ = some u ∧ w3.frozen? ⟨w2.heap.size, j, none⟩ = false → X.cell? ⟨w2.heap.size, j, none⟩ = some u ∧ X.frozen? ⟨w2.heap.size, j, none⟩ = false := fun j u h => ⟨(AX.out.cell (p := ⟨w2.heap.size, j, none⟩) l2).trans h.1, (AX.out.frozen (p := ⟨w2.heap.size, j, none⟩) l2).trans h.2⟩
  obtain ⟨q0, p0⟩ := q 0 _ z0
  obtain ⟨q1, p1⟩ := q 1 _ z1
  obtain ⟨q2, p2⟩ := q 2 _ z2
  have Q3 := Lib.hid (q 3 _ z3)
  have Q4 := Lib.hid (q 4 _ z4)
  have Q5 := Lib.hid (q 5 _ z5)
  have QX := Lib.hid (And.intro (q 0 _ z0) (And.intro (q 1 _ z1) (q 2 _ z2)))
  clear q z0 z1 z2 z3 z4 z5
  have b0 : X.cell? ⟨w3.heap.size, 0, none⟩ = some (.string ⟨#[97]⟩) := by rw [hX, World.cell?_alloc_new]; rfl
  have b1 : X.cell? ⟨w3.heap.size, 1, none⟩ = some (.int .i64 0) := by rw [hX, World.cell?_alloc_new]; rfl
  have b2 : X.cell? ⟨w3.heap.size, 2, none⟩ = some (.slice (some ⟨g, 0, none⟩) 2 4) := by rw [hX, World.cell?_alloc_new]; rfl
  have hX' := hX.symm
  clear hX
  go_wp2_with fail
  clear q0 q1 q2 p0 p1 p2 b0 b1 b2 hX'
  obtain ⟨w4, hw4⟩ : ∃ w4, set3 X w2.heap.size 0 (.string ⟨#[97]⟩) (.int .i64 0) (.slice (some ⟨g, 0, none⟩) 2 4) = w4 := ⟨_, rfl⟩
  have hw4' := hw4
  unfold set3 at hw4'
  simp only [Nat.zero_add] at hw4'
  rw [hw4']
  clear hw4'
  have l3 : w2.heap.size < X.heap.size := Nat.lt_of_lt_of_le l2 AX.out.size
  have hwX : w.heap.size < X.heap.size := Nat.lt_of_le_of_lt B2.out.size l3
  have r := set3_at (x := .string ⟨#[97]⟩) (y := .int .i64 0) (z := .slice (some ⟨g, 0, none⟩) 2 4) (o := 0) (by rw [QX.out.1.1]; rfl) (by rw [QX.out.2.1.1]; rfl) (by rw [QX.out.2.2.1]; rfl)
  rw [hw4] at r
  have R4 := Lib.hid r
  have keep : ∀ b j, b ≠ w2.heap.size → w4.cell? ⟨b, j, none⟩ = X.cell? ⟨b, j, none⟩ := fun b j h => by rw [← hw4]; exact set3_other (Or.inl h)
  have z3 : w4.cell? ⟨w2.heap.size, 3, none⟩ = some (.string ⟨#[]⟩) ∧ w4.frozen? ⟨w2.heap.size, 3, none⟩ = false := by rw [← hw4, set3_other (Or.inr (Or.inr (by simp))), set3_frozen]; exact Q3.out
  have z4 : w4.cell? ⟨w2.heap.size, 4, none⟩ = some (.int .i64 0) ∧ w4.frozen? ⟨w2.heap.size, 4, none⟩ = false := by rw [← hw4, set3_other (Or.inr (Or.inr (by simp))), set3_frozen]; exact Q4.out
  have z5 : w4.cell? ⟨w2.heap.size, 5, none⟩ = some (.slice none 0 0) ∧ w4.frozen? ⟨w2.heap.size, 5, none⟩ = false := by rw [← hw4, set3_other (Or.inr (Or.inr (by simp))), set3_frozen]; exact Q5.out
  have B4 : Hid (Below w.heap.size w w4) := Lib.hid (by rw [← hw4]; exact set3_below (B3.out.trans (AX.out.mono B3.out.size)) B2.out.size _ _ _ _)
  have X0 : w4.cell? ⟨g, 0, none⟩ = some (.string ⟨#[120]⟩) := by rw [keep g 0 (by have := G3.out.1; omega)]; exact (AX.out.cell (block_lt_of_cell x0)).trans x0
  have X1 : w4.cell? ⟨g, 1, none⟩ = some (.string ⟨#[121]⟩) := by rw [keep g 1 (by have := G3.out.1; omega)]; exact (AX.out.cell (block_lt_of_cell x1)).trans x1
  have v1 : w4.cell? ⟨w.heap.size, 1, none⟩ = some (.string ⟨#[33, 98]⟩) := by rw [keep _ 1 (by omega)]; exact (AX.out.cell (block_lt_of_cell y1)).trans y1
  have XX := Lib.hid (And.intro X0 X1)
  have gne : Hid (g ≠ w2.heap.size) := Lib.hid (by have := G3.out.1; omega)
  clear r keep X0 X1 x0 x1 y1 hw4 Q3 Q4 Q5 QX AX A2 U B3 G3 l2 l3 hwX hz2 H2
  rw [rounds_succ]
  go_wp2_with fail
  refine (read_b w4).mono ?_
  rintro e w5 ⟨rfl, hb⟩
  have l4 : w2.heap.size < w4.heap.size := block_lt_of_cell z3.1
  have k : ∀ b j u, w4.cell? ⟨b, j, none⟩ = some u → w5.cell? ⟨b, j, none⟩ = some u := fun b j u h => (hb.cell (block_lt_of_cell h)).trans h
  have kf : ∀ j, w5.frozen? ⟨w2.heap.size, j, none⟩ = w4.frozen? ⟨w2.heap.size, j, none⟩ := fun j => hb.frozen (p := ⟨w2.heap.size, j, none⟩) l4
  obtain ⟨Y, hY⟩ : ∃ Y, Y = w5.alloc (.cells #[.string ⟨#[98]⟩, .int .i64 3, .slice none 0 0] 36) := ⟨_, rfl⟩
  have AY := Lib.hid ((Below.refl _ w5).alloc (Nat.le_refl _) (.cells #[.string ⟨#[98]⟩, .int .i64 3, .slice none 0 0] 36))
  rw [← hY] at AY
  have l5 : w2.heap.size < w5.heap.size := Nat.lt_of_lt_of_le l4 hb.size
  have q : ∀ b j u, w4.cell? ⟨b, j, none⟩ = some u → Y.cell? ⟨b, j, none⟩ = some u := fun b j u h => (AY.out.cell (block_lt_of_cell (k b j u h))).trans (k b j u h)
  have qf : ∀ j, w4.frozen? ⟨w2.heap.size, j, none⟩ = false → Y.frozen? ⟨w2.heap.size, j, none⟩ = false := fun j h => (AY.out.frozen (p := ⟨w2.heap.size, j, none⟩) l5).trans ((kf j).trans h)
  have q3 := q _ _ _ z3.1
  have q4 := q _ _ _ z4.1
  have q5 := q _ _ _ z5.1
  have f3 := qf _ z3.2
  have f4 := qf _ z4.2
  have f5 := qf _ z5.2
  have Q := Lib.hid (And.intro q3 (And.intro q4 (And.intro q5 (And.intro (q _ _ _ R4.out.2.1) (And.intro (q _ _ _ R4.out.2.2) (And.intro (q _ _ _ R4.out.1) (And.intro (q _ _ _ XX.out.1) (q _ _ _ XX.out.2))))))))
  have BY := Lib.hid (B4.out.trans ((hb.trans (AY.out.mono hb.size)).mono B4.out.size))
  have b0 : Y.cell? ⟨w5.heap.size, 0, none⟩ = some (.string ⟨#[98]⟩) := by rw [hY, World.cell?_alloc_new]; rfl
  have b1 : Y.cell? ⟨w5.heap.size, 1, none⟩ = some (.int .i64 3) := by rw [hY, World.cell?_alloc_new]; rfl
  have b2 : Y.cell? ⟨w5.heap.size, 2, none⟩ = some (.slice none 0 0) := by rw [hY, World.cell?_alloc_new]; rfl
  have fz : Y.frozen? ⟨w5.heap.size, 2, none⟩ = false := by rw [hY]; simp
  have same : Y.setCell ⟨w5.heap.size, 2, none⟩ (.slice none 0 0) = Y := by rw [hY]; go_simp
  have hY' := hY.symm
  clear hY q qf k kf z3 z4 z5 v1 R4 XX B4 hb
  go_wp2_with fail
  clear q3 q4 q5 f3 f4 f5 b0 b1 b2 hY' fz same
  obtain ⟨w6, hw6⟩ : ∃ w6, set3 Y w2.heap.size 3 (.string ⟨#[98]⟩) (.int .i64 3) (.slice none 0 0) = w6 := ⟨_, rfl⟩
  have hw6' := hw6
  unfold set3 at hw6'
  simp only [Nat.reduceAdd] at hw6'
  rw [hw6']
  clear hw6'
  have r := set3_at (w := Y) (b := w2.heap.size) (x := .string ⟨#[98]⟩) (y := .int .i64 3) (z := .slice none 0 0) (o := 3) (by rw [Q.out.1]; rfl) (by rw [Q.out.2.1]; rfl) (by rw [Q.out.2.2.1]; rfl)
  rw [hw6] at r
  have c1 : w6.cell? ⟨w2.heap.size, 1, none⟩ = some (.int .i64 0) := by rw [← hw6, set3_other (Or.inr (Or.inl (by simp)))]; exact Q.out.2.2.2.1
  have c2 : w6.cell? ⟨w2.heap.size, 2, none⟩ = some (.slice (some ⟨g, 0, none⟩) 2 4) := by rw [← hw6, set3_other (Or.inr (Or.inl (by simp)))]; exact Q.out.2.2.2.2.1
  have c0 : w6.cell? ⟨w2.heap.size, 0, none⟩ = some (.string ⟨#[97]⟩) := by rw [← hw6, set3_other (Or.inr (Or.inl (by simp)))]; exact Q.out.2.2.2.2.2.1
  have d0 : w6.cell? ⟨g, 0, none⟩ = some (.string ⟨#[120]⟩) := by rw [← hw6, set3_other (Or.inl gne.out)]; exact Q.out.2.2.2.2.2.2.1
  have d1 : w6.cell? ⟨g, 1, none⟩ = some (.string ⟨#[121]⟩) := by rw [← hw6, set3_other (Or.inl gne.out)]; exact Q.out.2.2.2.2.2.2.2
  have B6 : Hid (Below w.heap.size w w6) := Lib.hid (by rw [← hw6]; exact set3_below BY.out B2.out.size _ _ _ _)
  have T : Hid (Trms w6 (.slice (some ⟨w2.heap.size, 0, none⟩) 2 2) [⟨⟨#[97]⟩, 0, .slice (some ⟨g, 0, none⟩) 2 4, [⟨#[120]⟩, ⟨#[121]⟩]⟩, ⟨⟨#[98]⟩, 3, .slice none 0 0, []⟩]) := Lib.hid (by
    refine ⟨?_, _, 2, rfl, by simp, by decide, (fun h => by cases h), fun _ => ⟨_, _, rfl, ?_⟩⟩
    · intro x hx
      simp only [List.mem_cons, List.not_mem_nil, or_false] at hx
      rcases hx with rfl | rfl
      · refine ⟨⟨_, 4, rfl, by simp, by decide, (fun h => by cases h), fun k hk => ⟨g, 0, rfl, ?_⟩⟩, ?_⟩
        · match k, hk with
          | 0, _ => exact d0
          | 1, _ => exact d1
          | (k + 2), hk => exact absurd hk (by simp)
        · intro t ht
          simp only [List.mem_cons, List.not_mem_nil, or_false] at ht
          rcases ht with rfl | rfl <;> decide
      · exact ⟨⟨none, 0, rfl, by simp, by decide, fun _ => rfl, fun k hk => by simp at hk⟩, by simp⟩
    · intro j hj i u hu
      match j, hj with
      | 0, _ =>
        match i, hu with
        | 0, hu => cases hu; exact c0
        | 1, hu => cases hu; exact c1
        | 2, hu => cases hu; exact c2
        | (i + 3), hu => simp [Trm.cells] at hu
      | 1, _ =>
        match i, hu with
        | 0, hu => cases hu; exact r.1
        | 1, hu => cases hu; exact r.2.1
        | 2, hu => cases hu; exact r.2.2
        | (i + 3), hu => simp [Trm.cells] at hu
      | (j + 2), hj => exact absurd hj (by simp))
  have E := Lib.hid (And.intro c1 (And.intro c2 r.2.1))
  clear r c0 c1 c2 d0 d1 hw6 Q BY
  rw [rounds_succ]
  go_wp2_with fail
  refine (terms_any _ _ w6 T.out (by simp)).mono ?_
  rintro e w7 ⟨rfl, hb⟩
  rw [terms_k]
  have B7 := Lib.hid (B6.out.trans (hb.mono B6.out.size))
  have e1 := (hb.cell (block_lt_of_cell E.out.1)).trans E.out.1
  have e2 := (hb.cell (block_lt_of_cell E.out.2.1)).trans E.out.2.1
  have e4 := (hb.cell (block_lt_of_cell E.out.2.2)).trans E.out.2.2
  have EE := Lib.hid (And.intro e1 (And.intro e2 e4))
  clear hb e1 e2 e4 E T B6
  go_wp2_with fail
  go_ret2
  exact ⟨w2.heap.size, _, rfl, EE.out.1, EE.out.2.1, ⟨_, _, rfl⟩, EE.out.2.2, B7.out⟩
end Go.Proofs.YtjlpcklcnabldaaDoor.L
