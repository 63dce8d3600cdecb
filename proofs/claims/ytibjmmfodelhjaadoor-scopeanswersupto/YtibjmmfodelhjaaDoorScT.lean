/-
  Within of every two scopes.
-/
import Derived.Test.YtibjmmfodelhjaaDoorScA
namespace Go.Proofs.YtibjmmfodelhjaaDoor
open Go.RowKit
def wiB (k a k' a' : Int) : Bool := validB k a && validB k' a' && ((k == k' && a == a') || k' == 0)
set_option maxHeartbeats 4000000 in
set_option maxRecDepth 100000 in
theorem within_any (k a k' a' : Int) (w : World) (h : Nms w) :
    Calls Tryd.prog 15 #[.agg #[.int .i64 k, .int .i64 a], .agg #[.int .i64 k', .int .i64 a']] w fun e w' => e = .returned (.bool (wiB k a k' a')) ∧ Below w.heap.size w w' := by
  have H := Lib.hid h
  clear h
  obtain ⟨X, hX⟩ : ∃ X, X = (w.alloc (.cells #[.int .i64 k, .int .i64 a] 41)).alloc (.cells #[.int .i64 k', .int .i64 a'] 41) := ⟨_, rfl⟩
  have BX : Hid (Below w.heap.size w X) := Lib.hid (by rw [hX]; have q : Below w.heap.size w (w.alloc (.cells #[.int .i64 k, .int .i64 a] 41)) := (Below.refl _ w).alloc (Nat.le_refl _) _; exact q.alloc q.size _)
  have KC : Hid (∀ W : World, Below X.heap.size X W → W.cell? ⟨w.heap.size, 0, none⟩ = some (.int .i64 k) ∧ W.cell? ⟨w.heap.size, 1, none⟩ = some (.int .i64 a) ∧ W.cell? ⟨w.heap.size + 1, 0, none⟩ = some (.int .i64 k') ∧ W.cell? ⟨w.heap.size + 1, 1, none⟩ = some (.int .i64 a') ∧ Below w.heap.size w W) := Lib.hid fun W hb => by
    have q : ∀ j v, (#[.int .i64 k, .int .i64 a] : Array Value)[j]? = some v → X.cell? ⟨w.heap.size, j, none⟩ = some v := fun j v hv => by rw [hX]; exact cell_al (by rw [World.cell?_alloc_new]; exact hv) _
    have q2 : ∀ j v, (#[.int .i64 k', .int .i64 a'] : Array Value)[j]? = some v → X.cell? ⟨w.heap.size + 1, j, none⟩ = some v := fun j v hv => by
      have e : w.heap.size + 1 = (w.alloc (.cells #[.int .i64 k, .int .i64 a] 41)).heap.size := by simp
      rw [hX, e, World.cell?_alloc_new]; exact hv
    exact ⟨(hb.cell (block_lt_of_cell (q 0 _ rfl))).trans (q 0 _ rfl), (hb.cell (block_lt_of_cell (q 1 _ rfl))).trans (q 1 _ rfl), (hb.cell (block_lt_of_cell (q2 0 _ rfl))).trans (q2 0 _ rfl), (hb.cell (block_lt_of_cell (q2 1 _ rfl))).trans (q2 1 _ rfl), BX.out.trans (hb.mono BX.out.size)⟩
  have EX := Lib.hid hX
  clear hX
  go_enter Tryd.func15, Tryd.ntmps15
  have V1 := Lib.hid (valid_any k a X (H.out.below BX.out))
  rw [EX.out] at V1
  go_wp2_with fail
  refine V1.out.mono ?_
  rintro e w1 ⟨rfl, hb1⟩
  rw [← EX.out] at hb1
  obtain ⟨c0, c1, c2, c3, b1⟩ := KC.out w1 hb1
  have B1 := Lib.hid b1
  have V2 := Lib.hid (valid_any k' a' w1 (H.out.below b1))
  have X1 := Lib.hid hb1
  clear b1 hb1 V1
  cases hv : validB k a with
  | false =>
    have E : Hid (wiB k a k' a' = false) := Lib.hid (by unfold wiB; rw [hv]; rfl)
    clear hv
    go_wp2_with fail
    go_ret
    exact ⟨by rw [E.out]; rfl, B1.out⟩
  | true =>
    go_wp2_with fail
    refine V2.out.mono ?_
    rintro e w2 ⟨rfl, hb2⟩
    obtain ⟨d0, d1, d2, d3, b2⟩ := KC.out w2 (X1.out.trans (hb2.mono X1.out.size))
    have B2 := Lib.hid b2
    clear c0 c1 c2 c3 hb2 b2 V2
    cases hv' : validB k' a' with
    | false =>
      have E : Hid (wiB k a k' a' = false) := Lib.hid (by unfold wiB; rw [hv, hv']; rfl)
      clear hv hv'
      go_wp2_with fail
      go_ret
      exact ⟨by rw [E.out]; rfl, B2.out⟩
    | true =>
      have E : Hid (wiB k a k' a' = ((k == k' && a == a') || k' == 0)) := Lib.hid (by unfold wiB; rw [hv, hv']; rfl)
      clear hv hv'
      by_cases hs : k = k' ∧ a = a'
      · obtain ⟨rfl, rfl⟩ := hs
        have E2 : Hid (((k == k && a == a) || k == 0) = true) := Lib.hid (by simp)
        go_wp2_with fail
        go_ret
        exact ⟨by rw [E.out, E2.out]; rfl, B2.out⟩
      · by_cases hk : k = k'
        · subst hk
          have ha : ¬ a = a' := fun e => hs ⟨rfl, e⟩
          have gk : (k == k) = true := by simp
          have ga : (a == a') = false := by rw [beq_eq_false_iff_ne]; exact ha
          clear hs
          by_cases h0 : k = 0
          · subst h0
            have E2 : Hid ((((0 : Int) == 0 && a == a') || (0 : Int) == 0) = true) := Lib.hid (by simp)
            go_wp2_with fail
            go_ret
            exact ⟨by rw [E.out, E2.out]; first | rfl | simp, B2.out⟩
          · have g0 : (k == 0) = false := by rw [beq_eq_false_iff_ne]; exact h0
            have E2 : Hid (((k == k && a == a') || k == 0) = false) := Lib.hid (by rw [ga, g0]; simp)
            go_wp2_with fail
            go_ret
            exact ⟨by rw [E.out, E2.out]; first | rfl | simp, B2.out⟩
        · have gk : (k == k') = false := by rw [beq_eq_false_iff_ne]; exact hk
          clear hs
          by_cases h0 : k' = 0
          · subst h0
            have E2 : Hid (((k == 0 && a == a') || (0 : Int) == 0) = true) := Lib.hid (by simp)
            go_wp2_with fail
            go_ret
            exact ⟨by rw [E.out, E2.out]; first | rfl | simp, B2.out⟩
          · have g0 : (k' == 0) = false := by rw [beq_eq_false_iff_ne]; exact h0
            have E2 : Hid (((k == k' && a == a') || k' == 0) = false) := Lib.hid (by rw [gk, g0]; rfl)
            go_wp2_with fail
            go_ret
            exact ⟨by rw [E.out, E2.out]; first | rfl | simp, B2.out⟩
end Go.Proofs.YtibjmmfodelhjaaDoor
