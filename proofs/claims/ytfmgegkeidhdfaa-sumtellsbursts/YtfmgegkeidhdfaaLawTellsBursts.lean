/-
  THE WALK of SumTellsBursts.
-/
import Derived.Test.YtfmgegkeidhdfaaTurned
namespace Go.Proofs.Ytfmgegkeidhdfaa
open Go.RowKit

theorem Own.shape {B : Nat} {w : World} {v : Value} {l : List (BitVec 8)} (h : Own B w v l) (n : Nat) (hn : l.length = n) : ∃ a cap, v = .slice a n cap := by
  obtain ⟨a, cap, e, _⟩ := h.bytes
  exact ⟨a, cap, by rw [← hn]; exact e⟩
theorem sealed_take (l : List (BitVec 8)) : (sealed l).take ((sealed l).length - 4) = l := by
  rw [seal_length, Nat.add_sub_cancel]; simp [sealed]

set_option maxHeartbeats 2000000 in
theorem sumTellsBursts_walk (v : Value) (l : List (BitVec 8)) (n : Int) (x : BitVec 32) (w : World) (b : Bytes w v l) (s : l.length ≤ 140737488351232) (_c : -9223372036854775808 ≤ n ∧ n ≤ 9223372036854775807) :
    Calls Try.prog 7 #[v, .int .i64 n, .int .u32 (u x)] w fun e w' => e = .returned (.bool true) ∧ Below w.heap.size w w' := by
  have V : Aside (Bytes w v l) := b
  obtain ⟨a, cap, rfl, _, _, _, _⟩ := b
  have L : Aside ((sealed l).length = l.length + 4) := seal_length l
  go_enter Try.func7, Try.ntmps7
  go_wp2_with fail
  refine (fixed_any _).mono ?_
  rintro e w1 ⟨rfl, hb⟩
  have B1 : Aside (Below w.heap.size w w1) := hb
  clear hb
  go_wp2_with fail
  refine (dup_any _ l w1 (V.out.below B1.out) (by omega)).mono ?_
  rintro e w2 ⟨v2, rfl, ho, hb⟩
  have O2 : Aside (Own w1.heap.size w2 v2 l) := ho
  have B2 : Aside (Below w.heap.size w w2) := B1.out.trans (hb.mono B1.out.size)
  clear hb ho B1
  go_wp2_with fail
  refine (seal_any v2 l w2 O2.out.bytes (by omega)).mono ?_
  rintro e w3 ⟨v3, rfl, ho, hb⟩
  have O3 : Aside (Own w2.heap.size w3 v3 (sealed l)) := ho
  have B3 : Aside (Below w.heap.size w w3) := B2.out.trans (hb.mono B2.out.size)
  clear hb ho B2 O2
  obtain ⟨a3, cap3, rfl⟩ := O3.out.shape (l.length + 4) L.out
  go_wp2_with fail
  refine (dup_any _ (sealed l) w3 O3.out.bytes (by rw [L.out]; omega)).mono ?_
  rintro e w4 ⟨v4, rfl, ho, hb⟩
  have O4 : Aside (Own w3.heap.size w4 v4 (sealed l) ∧ Own w2.heap.size w4 (.slice a3 (l.length + 4) cap3) (sealed l)) := ⟨ho, O3.out.below hb⟩
  have B4 : Aside (Below w.heap.size w w4) := B3.out.trans (hb.mono B3.out.size)
  clear hb ho B3 O3
  go_wp2_with fail
  refine (open_any v4 (sealed l) w4 O4.out.1.bytes (by rw [L.out]; omega) (by rw [L.out]; omega)).mono ?_
  rintro e w5 (⟨hs, rfl, hb⟩ | ⟨_, v5, rfl, ho, hb⟩)
  · exact absurd (isSealed_sealed l) hs
  rw [sealed_take] at ho
  have O5 : Aside (Own w4.heap.size w5 v5 l ∧ Own w2.heap.size w5 (.slice a3 (l.length + 4) cap3) (sealed l)) := ⟨ho, O4.out.2.below hb⟩
  have B5 : Aside (Below w.heap.size w w5) := B4.out.trans (hb.mono B4.out.size)
  clear hb ho B4 O4
  go_wp2_with fail
  refine (same_yes v5 _ l w5 O5.out.1.bytes (V.out.below B5.out)).mono ?_
  rintro e w5' ⟨rfl, rfl⟩
  by_cases hn : n < 0 ∨ 8 * (l.length + 4 : Int) ≤ n
  · have c : (decide (n < 0) || decide (8 * ((l.length : Int) + 4) ≤ n)) = true := by
      rcases hn with h | h <;> simp [h]
    clear hn O5 L V
    go_wp2_with fail
    all_goals (go_ret; exact ⟨rfl, B5.out⟩)
  obtain ⟨m, rfl⟩ := Int.eq_ofNat_of_zero_le (show 0 ≤ n by omega)
  have c1 : ¬ ((m : Int) < 0) := by omega
  have c2 : ¬ (8 * ((l.length : Int) + 4) ≤ (m : Int)) := by omega
  have M : Aside (m ≤ 1125899906842624) := by unfold Aside; omega
  clear hn
  go_wp2_with fail
  refine (turned_any _ (sealed l) m x _ O5.out.2.bytes (by rw [L.out]; omega) M.out).mono ?_
  rintro e w6 ⟨v6, c, rfl, ho, hu, hb⟩
  have O6 : Aside (Own w5'.heap.size w6 v6 c ∧ Burst (sealed l) c ∧ Own w2.heap.size w6 (.slice a3 (l.length + 4) cap3) (sealed l)) := ⟨ho, hu, O5.out.2.below hb⟩
  have B6 : Aside (Below w.heap.size w w6) := B5.out.trans (hb.mono B5.out.size)
  clear hb ho hu B5 O5
  go_wp2_with fail
  by_cases hc : c = sealed l
  · refine (same_yes v6 _ (sealed l) w6 (by have := O6.out.1.bytes; rw [hc] at this; exact this) O6.out.2.2.bytes).mono ?_
    rintro e w' ⟨rfl, rfl⟩
    clear hc O6 V L
    go_wp2_with fail
    go_ret
    exact ⟨rfl, B6.out⟩
  have C : Aside (¬ c = sealed l) := hc
  clear hc
  refine (same_no v6 _ c (sealed l) w6 O6.out.1.bytes O6.out.2.2.bytes C.out).mono ?_
  rintro e w6' ⟨rfl, rfl⟩
  have L6 : Aside (c.length = l.length + 4) := by rw [Aside, O6.out.2.1.1]; exact L.out
  go_wp2_with fail
  refine (dup_any v6 c _ O6.out.1.bytes (by rw [L6.out]; omega)).mono ?_
  rintro e w7 ⟨v7, rfl, ho, hb⟩
  have O7 : Aside (Own w6'.heap.size w7 v7 c) := ho
  have B7 : Aside (Below w.heap.size w w7) := B6.out.trans (hb.mono B6.out.size)
  clear hb ho B6
  go_wp2_with fail
  refine (open_any v7 c w7 O7.out.bytes (by rw [L6.out]; omega) (by rw [L6.out]; omega)).mono ?_
  rintro e w8 (⟨_, rfl, hb⟩ | ⟨hs, _⟩)
  rotate_left
  · exact absurd hs (O6.out.2.1.opened C.out (isSealed_sealed l) (by rw [L.out]; omega))
  have B8 : Aside (Below w.heap.size w w8) := B7.out.trans (hb.mono B7.out.size)
  clear hb B7 O7 O6 L6 C L
  go_wp2_with fail
  refine (turned_any _ l m x w8 (V.out.below B8.out) (by omega) M.out).mono ?_
  rintro e w9 ⟨v9, d, rfl, ho, hu, hb⟩
  have O9 : Aside (Own w8.heap.size w9 v9 d ∧ Burst l d) := ⟨ho, hu⟩
  have B9 : Aside (Below w.heap.size w w9) := B8.out.trans (hb.mono B8.out.size)
  clear hb ho hu B8
  go_wp2_with fail
  by_cases hd : d = l
  · refine (same_yes v9 _ l w9 (by have := O9.out.1.bytes; rw [hd] at this; exact this) (V.out.below B9.out)).mono ?_
    rintro e w' ⟨rfl, rfl⟩
    clear hd O9 V
    go_wp2_with fail
    go_ret
    exact ⟨rfl, B9.out⟩
  have D : Aside (¬ d = l) := hd
  clear hd
  refine (same_no v9 _ d l w9 O9.out.1.bytes (V.out.below B9.out) D.out).mono ?_
  rintro e w' ⟨rfl, rfl⟩
  go_wp2_with fail
  refine (sum_ex v9 d _ O9.out.1.bytes).mono ?_
  rintro e w10 ⟨r1, rfl, e1, hb⟩
  have B10 : Aside (Below w.heap.size w w10) := B9.out.trans (hb.mono B9.out.size)
  clear hb B9
  go_wp2_with fail
  refine (dup_any _ l w10 (V.out.below B10.out) (by omega)).mono ?_
  rintro e w11 ⟨v11, rfl, ho, hb⟩
  have O11 : Aside (Own w10.heap.size w11 v11 l) := ho
  have B11 : Aside (Below w.heap.size w w11) := B10.out.trans (hb.mono B10.out.size)
  clear hb ho B10
  go_wp2_with fail
  refine (sum_ex v11 l _ O11.out.bytes).mono ?_
  rintro e w12 ⟨r2, rfl, e2, hb⟩
  have B12 : Aside (Below w.heap.size w w12) := B11.out.trans (hb.mono B11.out.size)
  have hne : (u r1 != u r2) = true := by
    have h : ¬ r1 = r2 := by rw [e1.out, e2.out]; exact O9.out.2.upd D.out
    have h' : ¬ u r1 = u r2 := fun q => h (u_inj q)
    simp [h']
  clear hb B11 O11 O9 D V e1 e2
  go_wp2_with fail
  go_ret
  exact ⟨rfl, B12.out⟩
end Go.Proofs.Ytfmgegkeidhdfaa
