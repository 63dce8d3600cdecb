/-
  THE WALK of SumSeals.
-/
import Derived.Test.YtfmgegkeidhdfabRef4
namespace Go.Proofs.Ytfmgegkeidhdfab
open Go.RowKit

set_option maxHeartbeats 2000000 in
theorem sumSeals_walk (v : Value) (l : List (BitVec 8)) (w : World) (b : Bytes w v l) (s : l.length ≤ 140737488351232) :
    Calls Try.prog 4 #[v] w fun e w' => e = .returned (.bool true) ∧ Below w.heap.size w w' := by
  have V : Aside (Bytes w v l) := b
  clear b
  go_enter Try.func4, Try.ntmps4
  go_wp2_with fail
  refine (fixed_any _).mono ?_
  rintro e w1 ⟨rfl, hb⟩
  have B1 : Aside (Below w.heap.size w w1) := hb
  clear hb
  go_wp2_with fail
  refine (dup_any _ l w1 (V.out.below B1.out) (by omega)).mono ?_
  rintro e w2 ⟨v2, rfl, ho, hb⟩
  have O2 : Aside (Own w1.heap.size w2 v2 l) := ho
  have B2 : Aside (Below w.heap.size w w2) := B1.out.trans (hb.mono B1.out.size)
  clear hb ho B1
  go_wp2_with fail
  by_cases h4 : l.length < 4
  · have N : Aside (l.length < 4) := h4
    clear h4
    refine (open_short v2 l w2 O2.out.bytes N.out).mono ?_
    rintro e w2' ⟨rfl, rfl⟩
    go_wp2_with fail
    refine (ropen_short _ l w2' (V.out.below B2.out) N.out).mono ?_
    rintro e w2' ⟨rfl, rfl⟩
    go_wp2_with fail
    refine (same_yes _ _ [] w2' (Bytes.nil _) (Bytes.nil _)).mono ?_
    rintro e w2' ⟨rfl, rfl⟩
    go_wp2_with fail
    refine (seal_any v2 l w2' O2.out.bytes (by omega)).mono ?_
    rintro e w3 ⟨v3, rfl, ho, hb⟩
    have O3 : Aside (Own w2'.heap.size w3 v3 (sealed l) ∧ Own w1.heap.size w3 v2 l) := ⟨ho, O2.out.below hb⟩
    have B3 : Aside (Below w.heap.size w w3) := B2.out.trans (hb.mono B2.out.size)
    clear hb ho B2 O2
    go_wp2_with fail
    refine (rseal_any _ l w3 (V.out.below B3.out) (by omega)).mono ?_
    rintro e w4 ⟨v4, rfl, ho, hb⟩
    have O4 : Aside (Own w3.heap.size w4 v4 (sealed l) ∧ Own w2'.heap.size w4 v3 (sealed l) ∧ Own w1.heap.size w4 v2 l) := ⟨ho, O3.out.1.below hb, O3.out.2.below hb⟩
    have B4 : Aside (Below w.heap.size w w4) := B3.out.trans (hb.mono B3.out.size)
    clear hb ho B3 O3
    go_wp2_with fail
    refine (same_yes _ _ (sealed l) w4 O4.out.2.1.bytes O4.out.1.bytes).mono ?_
    rintro e w4' ⟨rfl, rfl⟩
    go_wp2_with fail
    refine (same_yes _ _ l w4' (V.out.below B4.out) O4.out.2.2.bytes).mono ?_
    rintro e w4' ⟨rfl, rfl⟩
    clear O4 V
    go_wp2_with fail
    go_ret
    exact ⟨rfl, B4.out⟩
  · have N : Aside (4 ≤ l.length) := by unfold Aside; omega
    clear h4
    refine (open_any v2 l w2 O2.out.bytes N.out (by omega)).mono ?_
    rintro e w3 (⟨hs, rfl, hb⟩ | ⟨hs, v3, rfl, ho, hb⟩)
    · have S : Aside (¬ isSealed l) := hs
      have O3 : Aside (Own w1.heap.size w3 v2 l) := O2.out.below hb
      have B3 : Aside (Below w.heap.size w w3) := B2.out.trans (hb.mono B2.out.size)
      clear hs hb O2 B2
      go_wp2_with fail
      refine (ropen_any _ l w3 (V.out.below B3.out) N.out (by omega)).mono ?_
      rintro e w4 (⟨_, rfl, hb⟩ | ⟨hs, _⟩)
      rotate_left
      · exact absurd hs S.out
      have O4 : Aside (Own w1.heap.size w4 v2 l) := O3.out.below hb
      have B4 : Aside (Below w.heap.size w w4) := B3.out.trans (hb.mono B3.out.size)
      clear hb O3 B3
      go_wp2_with fail
      refine (same_yes _ _ [] w4 (Bytes.nil _) (Bytes.nil _)).mono ?_
      rintro e w4' ⟨rfl, rfl⟩
      go_wp2_with fail
      refine (seal_any v2 l w4' O4.out.bytes (by omega)).mono ?_
      rintro e w5 ⟨v5, rfl, ho, hb⟩
      have O5 : Aside (Own w4'.heap.size w5 v5 (sealed l) ∧ Own w1.heap.size w5 v2 l) := ⟨ho, O4.out.below hb⟩
      have B5 : Aside (Below w.heap.size w w5) := B4.out.trans (hb.mono B4.out.size)
      clear hb ho B4 O4
      go_wp2_with fail
      refine (rseal_any _ l w5 (V.out.below B5.out) (by omega)).mono ?_
      rintro e w6 ⟨v6, rfl, ho, hb⟩
      have O6 : Aside (Own w5.heap.size w6 v6 (sealed l) ∧ Own w4'.heap.size w6 v5 (sealed l) ∧ Own w1.heap.size w6 v2 l) := ⟨ho, O5.out.1.below hb, O5.out.2.below hb⟩
      have B6 : Aside (Below w.heap.size w w6) := B5.out.trans (hb.mono B5.out.size)
      clear hb ho B5 O5
      go_wp2_with fail
      refine (same_yes _ _ (sealed l) w6 O6.out.2.1.bytes O6.out.1.bytes).mono ?_
      rintro e w6' ⟨rfl, rfl⟩
      go_wp2_with fail
      refine (same_yes _ _ l w6' (V.out.below B6.out) O6.out.2.2.bytes).mono ?_
      rintro e w6' ⟨rfl, rfl⟩
      clear O6 V
      go_wp2_with fail
      go_ret
      exact ⟨rfl, B6.out⟩
    · have S : Aside (isSealed l) := hs
      have O3 : Aside (Own w2.heap.size w3 v3 (l.take (l.length - 4)) ∧ Own w1.heap.size w3 v2 l) := ⟨ho, O2.out.below hb⟩
      have B3 : Aside (Below w.heap.size w w3) := B2.out.trans (hb.mono B2.out.size)
      clear hs ho hb O2 B2
      go_wp2_with fail
      refine (ropen_any _ l w3 (V.out.below B3.out) N.out (by omega)).mono ?_
      rintro e w4 (⟨hs, _⟩ | ⟨_, v4, rfl, hby, hb⟩)
      · exact absurd S.out hs
      have O4 : Aside (Bytes w4 v4 (l.take (l.length - 4)) ∧ Own w2.heap.size w4 v3 (l.take (l.length - 4)) ∧ Own w1.heap.size w4 v2 l) := ⟨hby, O3.out.1.below hb, O3.out.2.below hb⟩
      have B4 : Aside (Below w.heap.size w w4) := B3.out.trans (hb.mono B3.out.size)
      clear hby hb O3 B3
      go_wp2_with fail
      refine (same_yes v3 v4 _ w4 O4.out.2.1.bytes O4.out.1).mono ?_
      rintro e w4' ⟨rfl, rfl⟩
      go_wp2_with fail
      refine (seal_any v2 l w4' O4.out.2.2.bytes (by omega)).mono ?_
      rintro e w5 ⟨v5, rfl, ho, hb⟩
      have O5 : Aside (Own w4'.heap.size w5 v5 (sealed l) ∧ Own w1.heap.size w5 v2 l) := ⟨ho, O4.out.2.2.below hb⟩
      have B5 : Aside (Below w.heap.size w w5) := B4.out.trans (hb.mono B4.out.size)
      clear hb ho B4 O4
      go_wp2_with fail
      refine (rseal_any _ l w5 (V.out.below B5.out) (by omega)).mono ?_
      rintro e w6 ⟨v6, rfl, ho, hb⟩
      have O6 : Aside (Own w5.heap.size w6 v6 (sealed l) ∧ Own w4'.heap.size w6 v5 (sealed l) ∧ Own w1.heap.size w6 v2 l) := ⟨ho, O5.out.1.below hb, O5.out.2.below hb⟩
      have B6 : Aside (Below w.heap.size w w6) := B5.out.trans (hb.mono B5.out.size)
      clear hb ho B5 O5
      go_wp2_with fail
      refine (same_yes _ _ (sealed l) w6 O6.out.2.1.bytes O6.out.1.bytes).mono ?_
      rintro e w6' ⟨rfl, rfl⟩
      go_wp2_with fail
      refine (same_yes _ _ l w6' (V.out.below B6.out) O6.out.2.2.bytes).mono ?_
      rintro e w6' ⟨rfl, rfl⟩
      clear O6 V
      go_wp2_with fail
      go_ret
      exact ⟨rfl, B6.out⟩
end Go.Proofs.Ytfmgegkeidhdfab
