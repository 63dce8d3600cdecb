/-
  THE WALK of SumPatches.
-/
import Derived.Test.YtfmgegkeidhdfabRef5
namespace Go.Proofs.Ytfmgegkeidhdfab
open Go.RowKit

set_option maxHeartbeats 2000000 in
theorem sumPatches_walk (x : BitVec 32) (n at' : Int) (v : Value) (l : List (BitVec 8)) (v' : Value) (m : List (BitVec 8)) (w : World)
    (cn : -9223372036854775808 ≤ n ∧ n ≤ 9223372036854775807) (ca : -9223372036854775808 ≤ at' ∧ at' ≤ 9223372036854775807) (b : Bytes w v l) (s : l.length ≤ 140737488351232) (b' : Bytes w v' m) (s' : m.length ≤ 140737488351232) :
    Calls Try.prog 5 #[.int .u32 (u x), .int .i64 n, .int .i64 at', v, v'] w fun e w' => e = .returned (.bool true) ∧ Below w.heap.size w w' := by
  have V : Aside (Bytes w v l) := b
  have V' : Aside (Bytes w v' m) := b'
  clear b b'
  go_enter Try.func5, Try.ntmps5
  go_wp2_with fail
  refine (fixed_any _).mono ?_
  rintro e w1 ⟨rfl, hb⟩
  have B1 : Aside (Below w.heap.size w w1) := hb
  clear hb
  go_wp2_with fail
  refine (dup_any _ l w1 (V.out.below B1.out) (by omega)).mono ?_
  rintro e w2 ⟨v2, rfl, ho, hb⟩
  have O2 : Aside (Own w1.heap.size w2 v2 l) := ho
  have B2 : Aside (Below w.heap.size w w2) := B1.out.trans (hb.mono B1.out.size)
  clear hb ho B1
  go_wp2_with fail
  refine (dup_any _ m w2 (V'.out.below B2.out) (by omega)).mono ?_
  rintro e w3 ⟨v3, rfl, ho, hb⟩
  have O3 : Aside (Own w1.heap.size w3 v2 l ∧ Own w2.heap.size w3 v3 m) := ⟨O2.out.below hb, ho⟩
  have B3 : Aside (Below w.heap.size w w3) := B2.out.trans (hb.mono B2.out.size)
  clear hb ho B2 O2
  by_cases h : n < 0 ∨ 1099511627776 < n ∨ at' < 0 ∨ n < at' ∨ l.length ≠ m.length ∨ n - at' < l.length
  · have H : Aside (n < 0 ∨ 1099511627776 < n ∨ at' < 0 ∨ n < at' ∨ l.length ≠ m.length ∨ n - at' < l.length) := h
    clear h
    go_wp2_with fail
    refine (patch_arg x n at' v2 v3 l m w3 O3.out.1.bytes O3.out.2.bytes cn ca H.out).mono ?_
    rintro e w3' ⟨rfl, rfl⟩
    go_wp2_with fail
    refine (rpatch_arg x n at' _ _ l m w3' (V.out.below B3.out) (V'.out.below B3.out) cn ca H.out).mono ?_
    rintro e w3' ⟨rfl, rfl⟩
    go_wp2_with fail
    refine (same_yes _ _ l w3' O3.out.1.bytes (V.out.below B3.out)).mono ?_
    rintro e w3' ⟨rfl, rfl⟩
    go_wp2_with fail
    refine (same_yes _ _ m w3' O3.out.2.bytes (V'.out.below B3.out)).mono ?_
    rintro e w3' ⟨rfl, rfl⟩
    clear O3 V V' H
    go_wp2_with fail
    go_ret
    exact ⟨rfl, B3.out⟩
  · obtain ⟨p, rfl⟩ := Int.eq_ofNat_of_zero_le (show 0 ≤ n by omega)
    obtain ⟨q, rfl⟩ := Int.eq_ofNat_of_zero_le (show 0 ≤ at' by omega)
    have H : Aside (p ≤ 1099511627776 ∧ m.length = l.length ∧ q + l.length ≤ p) := ⟨by omega, by omega, by omega⟩
    clear h
    go_wp2_with fail
    refine (patch_any x p q v2 v3 l m w3 O3.out.1.bytes O3.out.2.bytes H.out.1 H.out.2.1 H.out.2.2).mono ?_
    rintro e w4 ⟨r1, rfl, e1, hb⟩
    have O4 : Aside (Own w1.heap.size w4 v2 l ∧ Own w2.heap.size w4 v3 m) := ⟨O3.out.1.below hb, O3.out.2.below hb⟩
    have B4 : Aside (Below w.heap.size w w4) := B3.out.trans (hb.mono B3.out.size)
    clear hb B3 O3
    go_wp2_with fail
    refine (rpatch_any x p q _ _ l m w4 (V.out.below B4.out) (V'.out.below B4.out) H.out.1 H.out.2.1 H.out.2.2).mono ?_
    rintro e w5 ⟨r2, rfl, e2, hb⟩
    have O5 : Aside (Own w1.heap.size w5 v2 l ∧ Own w2.heap.size w5 v3 m) := ⟨O4.out.1.below hb, O4.out.2.below hb⟩
    have B5 : Aside (Below w.heap.size w w5) := B4.out.trans (hb.mono B4.out.size)
    have E : r1 = r2 := by rw [e1.out, e2.out]
    clear hb B4 O4 e1 e2
    subst E
    go_wp2_with fail
    refine (same_yes _ _ l w5 O5.out.1.bytes (V.out.below B5.out)).mono ?_
    rintro e w5' ⟨rfl, rfl⟩
    go_wp2_with fail
    refine (same_yes _ _ m w5' O5.out.2.bytes (V'.out.below B5.out)).mono ?_
    rintro e w5' ⟨rfl, rfl⟩
    clear O5 V V' H
    go_wp2_with fail
    go_ret
    exact ⟨rfl, B5.out⟩
end Go.Proofs.Ytfmgegkeidhdfab
