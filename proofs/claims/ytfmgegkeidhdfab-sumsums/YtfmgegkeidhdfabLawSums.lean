/-
  THE WALK of SumSums.
-/
import Derived.Test.YtfmgegkeidhdfabRef2
namespace Go.Proofs.Ytfmgegkeidhdfab
open Go.RowKit

set_option maxHeartbeats 1000000 in
theorem sumSums_walk (v : Value) (l : List (BitVec 8)) (x y : BitVec 32) (n : Int) (w : World) (b : Bytes w v l) (s : l.length ≤ 140737488351232) (_c : -9223372036854775808 ≤ n ∧ n ≤ 9223372036854775807) :
    Calls Try.prog 6 #[v, .int .u32 (u x), .int .u32 (u y), .int .i64 n] w fun e w' => e = .returned (.bool true) ∧ Below w.heap.size w w' := by
  have b' : Aside (Bytes w v l) := b
  clear b
  go_enter Try.func6, Try.ntmps6
  go_wp2_with fail
  refine (fixed_any _).mono ?_
  rintro e w1 ⟨rfl, hb⟩
  have B1 : Aside (Below w.heap.size w w1) := hb
  clear hb
  go_wp2_with fail
  refine (dup_any v l w1 (b'.out.below B1.out) (by omega)).mono ?_
  rintro e w2 ⟨v2, rfl, ho, hb⟩
  have O2 : Aside (Own w1.heap.size w2 v2 l) := ho
  have B2 : Aside (Below w.heap.size w w2) := B1.out.trans (hb.mono B1.out.size)
  clear hb ho B1
  go_wp2_with fail
  refine (sum_any v2 l w2 O2.out.bytes).mono ?_
  rintro e w3 ⟨rfl, hb⟩
  have O3 : Aside (Own w1.heap.size w3 v2 l) := O2.out.below hb
  have B3 : Aside (Below w.heap.size w w3) := B2.out.trans (hb.mono B2.out.size)
  clear hb O2 B2
  go_wp2_with fail
  refine (rsum_any v l w3 (b'.out.below B3.out)).mono ?_
  rintro e w' ⟨rfl, rfl⟩
  go_wp2_with fail
  refine (update_any x v2 l _ O3.out.bytes).mono ?_
  rintro e w4 ⟨rfl, hb⟩
  have O4 : Aside (Own w1.heap.size w4 v2 l) := O3.out.below hb
  have B4 : Aside (Below w.heap.size w w4) := B3.out.trans (hb.mono B3.out.size)
  clear hb O3 B3
  go_wp2_with fail
  refine (rupdate_any x v l w4 (b'.out.below B4.out)).mono ?_
  rintro e w' ⟨rfl, rfl⟩
  go_wp2_with fail
  refine (same_any v v2 l l _ (b'.out.below B4.out) O4.out.bytes).mono ?_
  rintro e w' ⟨rfl, rfl⟩
  clear O4 b'
  by_cases hn : n < 0 ∨ 1099511627776 < n
  · have N : Aside (n < 0 ∨ 1099511627776 < n) := hn
    clear hn
    go_wp2_with fail
    refine (join_arg x y n N.out _).mono ?_
    rintro e w' ⟨rfl, rfl⟩
    go_wp2_with fail
    refine (rjoin_arg x y n N.out _).mono ?_
    rintro e w' ⟨rfl, rfl⟩
    go_wp2_with fail
    go_ret
    exact ⟨rfl, B4.out⟩
  · obtain ⟨m, rfl⟩ := Int.eq_ofNat_of_zero_le (show 0 ≤ n by omega)
    have N : Aside (m ≤ 1099511627776) := by unfold Aside; omega
    clear hn
    go_wp2_with fail
    refine (join_any x y m N.out _).mono ?_
    rintro e w' ⟨rfl, rfl⟩
    go_wp2_with fail
    refine (rjoin_any x y m N.out _).mono ?_
    rintro e w' ⟨rfl, rfl⟩
    go_wp2_with fail
    go_ret
    exact ⟨rfl, B4.out⟩
end Go.Proofs.Ytfmgegkeidhdfab
