/-
  slices.Concat of two lists of amounts, neither of them nil (any lengths that fit).
-/
import Derived.Test.YtmkdmfjdhajiaaaGreatDoorNormK
namespace Go.Proofs.YtmkdmfjdhajiaaaGreatDoor
open Go.RowKit Go.Sort Go.Lib
theorem grow_nil (n : Nat) (k : Int) (hk : k = n) (w : World) (h0 : 0 < n) (hn : n * 24 ≤ 140737488355328) :
    Calls Tryz.prog 49 #[.slice none 0 0, .int .i64 k] w fun e w' => ∃ v, e = .returned v ∧ w'.ownsRow w.heap.size 36 2 v 0 [] ∧ Below w.heap.size w w' := by
  subst hk
  obtain ⟨i0, hi, hz, hs, hby⟩ := amt_info
  refine (Any8.slices_Grow_grow Tryz.growA i0 _ hi hz (by omega) none 0 0 n [] w (Nat.le_refl _) (by omega) (by rw [hby]; omega) (by omega) (by simp) (fun _ => rfl) (fun a h => by cases h)).mono ?_
  rintro e w' ⟨rfl, rfl⟩
  refine ⟨_, rfl, ⟨rfl, .inr ⟨w.heap.size, _, _, rfl, Nat.le_refl _, Array.getElem?_push_size, Nat.zero_le _, ?_, ?_, ?_⟩⟩, ?_⟩
  · exact grownCap_le_maxLen _ _ _ _ (by simp only [maxLen]; omega)
  · have hg := grownCap_ge w (0 + n) 0 (Tryz.growA_ren.t 25)
    simp only [Array.size_append, List.size_toArray, List.length_nil, size_zeroCells, Value.cells]
    change 0 + (0 + n - 0) * 2 + (_ - (0 + n)) * 2 = _ * 2
    omega
  · simp
  · exact (Below.refl _ w).drew.alloc (Nat.le_refl _) _
set_option maxHeartbeats 8000000 in
set_option maxRecDepth 100000 in
theorem concat_two (g p q n m cn cm : Nat) (xs ys : List Value) (w : World) (hx : xs.length = n * 2) (hy : ys.length = m * 2) (h0 : 0 < n + m) (hn : (n + m) * 24 ≤ 140737488355328)
    (cx : ∀ j u, xs[j]? = some u → w.cell? ⟨p, 0 + j, none⟩ = some u) (cy : ∀ j u, ys[j]? = some u → w.cell? ⟨q, 0 + j, none⟩ = some u) (ox : ∀ u ∈ xs, u.oneCell' = true) (oy : ∀ u ∈ ys, u.oneCell' = true)
    (c0 : w.cell? ⟨g, 0, none⟩ = some (.slice (some ⟨p, 0, none⟩) n cn)) (c1 : w.cell? ⟨g, 1, none⟩ = some (.slice (some ⟨q, 0, none⟩) m cm)) :
    Calls Tryz.prog 32 #[.slice (some ⟨g, 0, none⟩) 2 2] w fun e w' => ∃ v, e = .returned v ∧ w'.ownsRow w.heap.size 36 2 v (n + m) (xs ++ ys) ∧ Below w.heap.size w w' := by
  have CX := Lib.hid cx
  have CY := Lib.hid cy
  clear cx cy
  have n1 : ¬ ((n : Int) < 0) := by omega
  have n2 : ¬ ((n : Int) + (m : Int) < 0) := by omega
  have w2 : wrap64 ((n : Int) + (m : Int)) = (n : Int) + (m : Int) := by unfold wrap64; omega
  go_enter Tryz.func32, Tryz.ntmps32
  go_wp2_with fail
  refine wp_loop_rounds 3 ?_
  rw [rounds_succ]
  go_wp2_with fail
  rw [rounds_succ]
  go_wp2_with fail
  rw [rounds_succ]
  go_wp2_with fail
  refine (grow_nil (n + m) _ (by omega) w h0 hn).mono ?_
  rintro e w1 ⟨v1, rfl, O, hb⟩
  have O1 := Lib.hid O
  have B1 := Lib.hid hb
  have d0 := (hb.cell (block_lt_of_cell c0)).trans c0
  have d1 := (hb.cell (block_lt_of_cell c1)).trans c1
  have hg := block_lt_of_cell c0
  clear O hb
  obtain ⟨i0, hi, hz, hs, hby⟩ := amt_info
  go_wp2_with fail
  refine wp_loop_rounds 3 ?_
  rw [rounds_succ]
  go_wp2_with (at_builtin; refine wpList_append_own _ rfl _ _ 22 rfl w.heap.size 36 i0 _ 2 24 Tryz.underlying22 hi hz hs hby rfl (by decide) _ 0 [] rfl O1.out ⟨p, 0, none⟩ n cn xs rfl hx ?q2 ox ?q4 ?q5 B1.out.size ?_)
  case q2 =>
    intro j u hj
    rw [Addr.add_lit]
    have h := CX.out j u hj
    exact (B1.out.cell (block_lt_of_cell h)).trans h
  case q4 => simp only [maxLen]; omega
  case q5 => omega
  intro v2 w2 own2 grown2 _
  have hv1 : ∀ k, v1.ownBlock = some k → w.heap.size ≤ k := by
    intro k hk
    obtain ⟨_, ⟨rfl, _⟩ | ⟨g', cap, cur, rfl, h, _⟩⟩ := O1.out
    · cases hk
    · cases hk; exact h
  have B2 := Lib.hid (B1.out.grown grown2 B1.out.size hv1)
  have O2 : Hid (w2.ownsRow w.heap.size 36 2 v2 n xs) := Lib.hid (by simpa using own2)
  have e1 := (B2.out.cell (p := ⟨g, 1, none⟩) hg).trans c1
  clear own2 grown2 hv1 d0 d1 O1 B1
  go_wp2_with fail
  rw [rounds_succ]
  go_wp2_with (at_builtin; refine wpList_append_own _ rfl _ _ 22 rfl w.heap.size 36 i0 _ 2 24 Tryz.underlying22 hi hz hs hby rfl (by decide) _ n xs rfl O2.out ⟨q, 0, none⟩ m cm ys rfl hy ?q2 oy ?q4 hn B2.out.size ?_)
  case q2 =>
    intro j u hj
    rw [Addr.add_lit]
    have h := CY.out j u hj
    exact (B2.out.cell (block_lt_of_cell h)).trans h
  case q4 => simp only [maxLen]; omega
  intro v3 w3 own3 grown3 _
  have hv2 : ∀ k, v2.ownBlock = some k → w.heap.size ≤ k := by
    intro k hk
    obtain ⟨_, ⟨rfl, _⟩ | ⟨g', cap, cur, rfl, h, _⟩⟩ := O2.out
    · cases hk
    · cases hk; exact h
  have B3 := Lib.hid (B2.out.grown grown3 B2.out.size hv2)
  have O3 := Lib.hid own3
  clear own3 grown3 hv2 O2 B2 e1
  go_wp2_with fail
  rw [rounds_succ]
  go_wp2_with fail
  go_ret
  exact ⟨v3, rfl, O3.out, B3.out⟩
end Go.Proofs.YtmkdmfjdhajiaaaGreatDoor
