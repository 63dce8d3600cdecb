/-
  Normal, at the three amounts of the laws known.
-/
import Derived.Test.YtmkdmfjdhajiaaaGreatDoorAmt
import Derived.Test.YtmkdmfjdhajiaaaGreatDoorNames
namespace Go.Proofs.YtmkdmfjdhajiaaaGreatDoor
open Go.RowKit Go.Sort Go.Lib
/-- The six cells of the three amounts. -/
def six : List Value := [Value.string ⟨#[99, 112, 117]⟩, .int .i64 1, .string ⟨#[109, 101, 109, 111, 114, 121]⟩, .int .i64 2, .string ⟨#[109, 101, 109, 111, 114, 121]⟩, .int .i64 3]
def Six (w : World) (b : Nat) : Prop := w.cell? ⟨b, 0, none⟩ = some (.string ⟨#[99, 112, 117]⟩) ∧ w.cell? ⟨b, 1, none⟩ = some (.int .i64 1) ∧ w.cell? ⟨b, 2, none⟩ = some (.string ⟨#[109, 101, 109, 111, 114, 121]⟩) ∧ w.cell? ⟨b, 3, none⟩ = some (.int .i64 2) ∧ w.cell? ⟨b, 4, none⟩ = some (.string ⟨#[109, 101, 109, 111, 114, 121]⟩) ∧ w.cell? ⟨b, 5, none⟩ = some (.int .i64 3)
theorem Six.below {w w' : World} {b : Nat} (h : Six w b) (hb : Below w.heap.size w w') : Six w' b :=
  ⟨(hb.cell (block_lt_of_cell h.1)).trans h.1, (hb.cell (block_lt_of_cell h.2.1)).trans h.2.1, (hb.cell (block_lt_of_cell h.2.2.1)).trans h.2.2.1, (hb.cell (block_lt_of_cell h.2.2.2.1)).trans h.2.2.2.1, (hb.cell (block_lt_of_cell h.2.2.2.2.1)).trans h.2.2.2.2.1, (hb.cell (block_lt_of_cell h.2.2.2.2.2)).trans h.2.2.2.2.2⟩
theorem Six.cells {w : World} {b : Nat} (h : Six w b) : ∀ j u, six[j]? = some u → w.cell? ⟨b, 0 + j, none⟩ = some u
  | 0, _, e => by cases e; exact h.1
  | 1, _, e => by cases e; exact h.2.1
  | 2, _, e => by cases e; exact h.2.2.1
  | 3, _, e => by cases e; exact h.2.2.2.1
  | 4, _, e => by cases e; exact h.2.2.2.2.1
  | 5, _, e => by cases e; exact h.2.2.2.2.2
theorem Six.of {w : World} {b : Nat} (h : ∀ j u, six[j]? = some u → w.cell? ⟨b, 0 + j, none⟩ = some u) : Six w b := ⟨h 0 _ rfl, h 1 _ rfl, h 2 _ rfl, h 3 _ rfl, h 4 _ rfl, h 5 _ rfl⟩
theorem six_one : ∀ u ∈ six, u.oneCell' = true := by
  intro u hu
  simp only [six, List.mem_cons, List.not_mem_nil, or_false] at hu
  rcases hu with rfl | rfl | rfl | rfl | rfl | rfl <;> rfl
theorem below_grow (w : World) (n : Nat) (os : Array Obj) : Below w.heap.size w (grow (w.drewN n) os) :=
  ⟨rfl, rfl, rfl, by simp [grow, World.drewN], fun k hk => by simp [grow, World.drewN, Array.getElem?_append, hk]⟩
theorem new_two (W : World) (T n : Nat) (a b : Value) (h : n = W.heap.size) : ∀ j u, [a, b][j]? = some u → (W.alloc (.cells #[a, b] T)).cell? ((⟨n, 0, none⟩ : Addr).add j) = some u := by
  subst h
  intro j u hj
  rw [Addr.add_lit, World.cell?_alloc_new]
  match j, hj with
  | 0, hj => exact hj
  | 1, hj => exact hj
  | (j + 2), hj => simp at hj
theorem two_one (t : ByteArray) (v : Int) : ∀ u ∈ [Value.string t, .int .i64 v], u.oneCell' = true := by
  intro u hu
  simp only [List.mem_cons, List.not_mem_nil, or_false] at hu
  rcases hu with rfl | rfl <;> rfl
theorem _root_.Go.RowKit.Below.drewN {B : Nat} {a w : World} (h : Below B a w) (n : Nat) : Below B a (w.drewN n) := ⟨h.os, h.tape, h.output, h.size, h.block⟩
theorem ownsA_below {w w' : World} {base e size n : Nat} {v : Value} {xs : List Value} (h : w.ownsRow base e size v n xs) (hb : Below w.heap.size w w') : w'.ownsRow base e size v n xs := by
  obtain ⟨hl, h | ⟨g, cap, cur, hv, h0, hg, hr⟩⟩ := h
  · exact ⟨hl, .inl h⟩
  · exact ⟨hl, .inr ⟨g, cap, cur, hv, h0, (hb.block g (Array.getElem?_eq_some_iff.1 hg).1).trans hg, hr⟩⟩
theorem add_23 (w : World) : Calls Tryz.prog 26 #[.int .i64 2, .int .i64 3] w fun e w' => e = .returned (.tuple #[.int .i64 5, .int .i64 0]) ∧ w' = w := by
  go_enter Tryz.func26, Tryz.ntmps26
  go_wp2
  go_ret2
  exact ⟨rfl, rfl⟩
set_option maxHeartbeats 8000000 in
set_option maxRecDepth 100000 in
theorem normal_three (b c : Nat) (w : World) (S : Six w b) :
    Calls Tryz.prog 9 #[.slice (some ⟨b, 0, none⟩) 3 c] w fun e w' => ∃ g cap, e = .returned (.tuple #[.slice (some ⟨g, 0, none⟩) 2 cap, .int .i64 0]) ∧ w'.cell? ⟨g, 2, none⟩ = some (.string ⟨#[109, 101, 109, 111, 114, 121]⟩) ∧ w'.cell? ⟨g, 3, none⟩ = some (.int .i64 5) ∧ Below w.heap.size w w' := by
  have S0 := Lib.hid S
  obtain ⟨c0, c1, c2, c3, c4, c5⟩ := S
  go_enter Tryz.func9, Tryz.ntmps9
  go_wp2_with fail
  refine wp_loop_rounds 4 ?_
  rw [rounds_succ]
  go_wp2_with fail
  refine (amount_ok ⟨#[99, 112, 117]⟩ 1 res_cpu _).mono ?_
  rintro e w1 ⟨rfl, hb⟩
  have B1 := Lib.hid (((Below.refl _ w).alloc (Nat.le_refl _) _).trans (hb.mono (by simp)))
  have S1 := Lib.hid (S0.out.below B1.out)
  obtain ⟨d0, d1, d2, d3, d4, d5⟩ := S1.out
  clear hb c0 c1 c2 c3 c4 c5 S0 d0 d1 d4 d5
  go_wp2_with fail
  rw [rounds_succ]
  go_wp2_with fail
  refine (amount_ok ⟨#[109, 101, 109, 111, 114, 121]⟩ 2 res_mem _).mono ?_
  rintro e w2 ⟨rfl, hb⟩
  have B2 := Lib.hid (((Below.refl _ w1).alloc (Nat.le_refl _) _).trans (hb.mono (by simp)))
  have S2 := Lib.hid (S1.out.below B2.out)
  obtain ⟨e0, e1, e2, e3, e4, e5⟩ := S2.out
  clear hb d2 d3 S1 e0 e1 e2 e3
  go_wp2_with fail
  rw [rounds_succ]
  go_wp2_with fail
  refine (amount_ok ⟨#[109, 101, 109, 111, 114, 121]⟩ 3 res_mem _).mono ?_
  rintro e w3 ⟨rfl, hb⟩
  have B3 := Lib.hid (((Below.refl _ w2).alloc (Nat.le_refl _) _).trans (hb.mono (by simp)))
  have S3 := Lib.hid (S2.out.below B3.out)
  clear hb e4 e5 S2
  go_wp2_with fail
  rw [rounds_succ]
  go_wp2_with fail
  obtain ⟨i0, hi, hz, hs, hby⟩ := amt_info
  refine (Tryz.slices_Clone i0 _ 2 24 hi hz hs hby rfl (by decide) amt_size b 0 3 c six w3 rfl (by decide) (by decide) S3.out.cells six_one).mono ?_
  rintro e w4 ⟨v', rfl, hown, _, hb⟩
  obtain ⟨g, cap, rfl, hbg, hg, hcells⟩ := row_of_owns hown (by decide)
  have B4 := Lib.hid hb
  have H4 := Lib.hid (Row3.holds hcells)
  have S4 := Lib.hid (Six.of fun j u hj => (hcells j u hj).1)
  clear hown hb hcells S3
  go_wp2_with fail
  refine (sort_k3 g cap w4 H4.out hg).mono ?_
  rintro e w5 ⟨rfl, n, os, hw5⟩
  have B5 : Hid (Below w4.heap.size w4 w5) := by rw [hw5]; exact below_grow w4 n os
  have S5 := Lib.hid (S4.out.below B5.out)
  obtain ⟨c0, c1, c2, c3, c4, c5⟩ := S5.out
  have B := Lib.hid (((B1.out.trans (B2.out.mono B1.out.size)).trans (B3.out.mono (Nat.le_trans B1.out.size B2.out.size))).trans ((B4.out.trans (B5.out.mono B4.out.size)).mono (Nat.le_trans (Nat.le_trans B1.out.size B2.out.size) B3.out.size)))
  clear hw5 S4 H4 B1 B2 B3 B4 B5
  go_wp2_with fail
  refine wp_loop_rounds 4 ?_
  rw [rounds_succ]
  go_wp2_with fail
  go_quiet (fail)
  go_wp2_with (at_builtin; refine wpList_append_own _ rfl _ _ 22 rfl w5.heap.size 36 i0 _ 2 24 Tryz.underlying22 hi hz hs hby rfl (by decide) _ 0 [] rfl (World.ownsRow_nil _ _ _ _) _ 1 1 [.string ⟨#[99, 112, 117]⟩, .int .i64 1] rfl rfl ?q2 ?q3 (by decide) (by decide) ?q6 ?_)
  case q2 => exact new_two _ _ _ _ _ (by simp)
  case q3 => exact two_one _ _
  case q6 => simp; omega
  intro v6 w6 own6 grown6 _
  obtain ⟨g6, cap6, rfl, hb6, hg6, hc6⟩ := row_of_owns own6 (by decide)
  have B6 := Lib.hid (((((Below.refl _ w5).alloc (Nat.le_refl _) (.cells #[.string ⟨#[99, 112, 117]⟩, .int .i64 1] 36)).drewN nq).alloc (by simp) (.cells #[.string ⟨#[99, 112, 117]⟩, .int .i64 1] 36)).grown grown6 (by simp; omega) (by intro k hk; cases hk))
  have S6 := Lib.hid (S5.out.below B6.out)
  obtain ⟨d0, d1, d2, d3, d4, d5⟩ := S6.out
  have O6 := Lib.hid own6
  have s0 := (hc6 0 _ rfl).1
  have L6 := Lib.hid hb6
  clear own6 grown6 c0 c1 c2 c3 c4 c5 hc6 d0 d1 d4 d5 hb6
  go_wp2_with fail
  rw [rounds_succ]
  go_wp2_with fail
  go_quiet (fail)
  go_wp2_with (at_builtin; refine wpList_append_own _ rfl _ _ 22 rfl w5.heap.size 36 i0 _ 2 24 Tryz.underlying22 hi hz hs hby rfl (by decide) _ 1 [.string ⟨#[99, 112, 117]⟩, .int .i64 1] rfl ?q7 _ 1 1 [.string ⟨#[109, 101, 109, 111, 114, 121]⟩, .int .i64 2] rfl rfl ?q2 ?q3 (by decide) (by decide) ?q6 ?_)
  case q7 => exact ownsA_below O6.out ((((Below.refl _ w6).alloc (Nat.le_refl _) _).drewN nq).alloc (by simp) _)
  case q2 => exact new_two _ _ _ _ _ (by simp)
  case q3 => exact two_one _ _
  case q6 => exact Nat.le_trans B6.out.size (by simp; omega)
  intro v7 w7 own7 grown7 _
  obtain ⟨g7, cap7, rfl, hb7, hg7, hc7⟩ := row_of_owns own7 (by decide)
  have B7 := Lib.hid (B6.out.trans ((((((Below.refl w5.heap.size w6).alloc B6.out.size (.cells #[.string ⟨#[109, 101, 109, 111, 114, 121]⟩, .int .i64 2] 36)).drewN nq).alloc (Nat.le_trans B6.out.size (by simp)) (.cells #[.string ⟨#[109, 101, 109, 111, 114, 121]⟩, .int .i64 2] 36)).grown grown7 (Nat.le_trans B6.out.size (by simp; omega)) (by intro k hk; cases hk; exact L6.out))))
  obtain ⟨e0, e1, e2, e3, e4, e5⟩ := S5.out.below B7.out
  have s2 := (hc7 2 _ rfl).1
  have s3 := (hc7 3 _ rfl).1
  have f3 := (hc7 3 _ rfl).2
  have L7 := Lib.hid hb7
  clear own7 grown7 e0 e1 e2 e3 hc7 hb7 O6 S6 d2 d3 s0 S5 B6 L6
  go_wp2_with fail
  rw [rounds_succ]
  go_wp2_with fail
  go_quiet (fail)
  go_wp2_with fail
  go_quiet (exact (add_23 _).mono fun _ _ h => ⟨h.1, _, h.2⟩)
  go_wp2_with fail
  rw [rounds_succ]
  go_wp2_with fail
  go_ret2
  have BX : ∀ B o q, B ≤ w7.heap.size → Below B w7 ((w7.alloc o).drewN q) := fun B o q h => (((Below.refl B w7).alloc h o).drewN q)
  refine ⟨g7, cap7, rfl, ?_, ?_, ?_⟩
  · rw [World.cell?_setCell_other _ _ _ _ (by simp)]
    exact ((BX _ _ _ (Nat.le_refl _)).cell hg7).trans s2
  · exact World.cell?_setCell_same' _ _ _ (by rw [((BX _ _ _ (Nat.le_refl _)).cell (p := ⟨g7, 3, none⟩) hg7).trans s3]; rfl)
  · exact B.out.trans ((B7.out.trans ((BX _ _ _ B7.out.size).setCell (p := ⟨g7, 3, none⟩) L7.out _)).mono B.out.size)
end Go.Proofs.YtmkdmfjdhajiaaaGreatDoor
