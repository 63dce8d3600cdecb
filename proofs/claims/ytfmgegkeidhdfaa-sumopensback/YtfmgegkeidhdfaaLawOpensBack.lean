/-
  THE WALK of SumOpensBack.
-/
import Derived.Test.YtfmgegkeidhdfaaWalk8
namespace Go.Proofs.Ytfmgegkeidhdfaa
open Go.RowKit

set_option maxHeartbeats 1000000 in
theorem sumOpensBack_walk (v : Value) (l : List (BitVec 8)) (w : World) (b : Bytes w v l) (s : l.length ≤ 140737488351232) :
    Calls Try.prog 5 #[v] w fun e w' => e = .returned (.bool true) ∧ Below w.heap.size w w' := by
  have b' : Aside (Bytes w v l) := b
  obtain ⟨a, cap, rfl, hlc, hcm, hnil, hcell⟩ := b
  clear hcell hnil
  unfold maxLen at hcm
  go_enter Try.func5, Try.ntmps5
  go_wp2_with fail
  refine (fixed_any _).mono ?_
  rintro e w1 ⟨rfl, hb⟩
  have B1 : Aside (Below w.heap.size w w1) := hb
  clear hb
  go_wp2_with fail
  refine (dup_any _ l w1 (b'.out.below B1.out) (by omega)).mono ?_
  rintro e w2 ⟨v2, rfl, ho, hb⟩
  have O2 : Aside (Own w1.heap.size w2 v2 l) := ho
  have B2 : Aside (Below w.heap.size w w2) := B1.out.trans (hb.mono B1.out.size)
  clear hb ho B1
  go_wp2_with fail
  by_cases h4 : l.length < 4
  · refine (open_short v2 l w2 O2.out.bytes h4).mono ?_
    rintro e w' ⟨rfl, rfl⟩
    have h4' : (l.length : Int) < 4 := by omega
    go_wp2_with fail
    go_ret
    exact ⟨rfl, B2.out⟩
  · have h4' : ¬ ((l.length : Int) < 4) := by omega
    have N : Aside (4 ≤ l.length) := by unfold Aside; omega
    clear h4
    refine (open_any v2 l w2 O2.out.bytes N.out (by omega)).mono ?_
    rintro e w3 (⟨hs, rfl, hb⟩ | ⟨hs, v3, rfl, ho, hb⟩)
    · have S : Aside (¬ isSealed l) := hs
      have B3 : Aside (Below w.heap.size w w3) := B2.out.trans (hb.mono B2.out.size)
      clear hs hb O2 B2
      go_wp2_with fail
      refine (dup_any _ (l.take (l.length - 4)) w3 ((b'.out.below B3.out).take (l.length - 4) (by omega)) (by rw [List.length_take]; omega)).mono ?_
      rintro e w4 ⟨v4, rfl, ho, hb⟩
      have O4 : Aside (Own w3.heap.size w4 v4 (l.take (l.length - 4))) := ho
      have B4 : Aside (Below w.heap.size w w4) := B3.out.trans (hb.mono B3.out.size)
      clear ho hb B3
      go_wp2_with fail
      refine (seal_any v4 _ w4 O4.out.bytes (by rw [List.length_take]; omega)).mono ?_
      rintro e w5 ⟨v5, rfl, ho, hb⟩
      have O5 : Aside (Own w4.heap.size w5 v5 (sealed (l.take (l.length - 4)))) := ho
      have B5 : Aside (Below w.heap.size w w5) := B4.out.trans (hb.mono B4.out.size)
      clear ho hb O4 B4
      go_wp2_with fail
      refine (same_no v5 _ _ l w5 O5.out.bytes (b'.out.below B5.out) (fun h => S.out h.symm)).mono ?_
      rintro e w' ⟨rfl, rfl⟩
      clear O5 b'
      go_wp2_with fail
      go_ret
      exact ⟨rfl, B5.out⟩
    · have S : Aside (isSealed l) := hs
      have O3 : Aside (Own w2.heap.size w3 v3 (l.take (l.length - 4))) := ho
      have B3 : Aside (Below w.heap.size w w3) := B2.out.trans (hb.mono B2.out.size)
      clear hs ho hb O2 B2
      go_wp2_with fail
      refine (seal_any v3 (l.take (l.length - 4)) w3 O3.out.bytes (by rw [List.length_take]; omega)).mono ?_
      rintro e w4 ⟨v4, rfl, ho, hb⟩
      have O4 : Aside (Own w3.heap.size w4 v4 l) := by rw [← S.out] at ho; exact ho
      have B4 : Aside (Below w.heap.size w w4) := B3.out.trans (hb.mono B3.out.size)
      clear ho hb
      go_wp2_with fail
      refine (same_any v4 _ l l w4 O4.out.bytes (b'.out.below B4.out)).mono ?_
      rintro e w' ⟨rfl, rfl⟩
      clear O4 O3 b'
      go_wp2_with fail
      go_ret
      exact ⟨rfl, B4.out⟩
end Go.Proofs.Ytfmgegkeidhdfaa
