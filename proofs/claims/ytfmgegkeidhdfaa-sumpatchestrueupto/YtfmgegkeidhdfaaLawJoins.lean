/-
  THE WALK of SumJoins.
-/
import Derived.Test.YtfmgegkeidhdfaaWalk9
namespace Go.Proofs.Ytfmgegkeidhdfaa
open Go.RowKit

theorem upd_cut (l : List (BitVec 8)) (m : Nat) : upd (upd 0#32 (l.take m)) (l.drop m) = upd 0#32 l := by
  unfold upd
  rw [BitVec.not_not, ← over_app, List.take_append_drop]
theorem over_lin (l : List (BitVec 8)) (y d : BitVec 32) : over (y ^^^ d) l = over y l ^^^ shN (8 * l.length) d := by
  induction l generalizing y d with
  | nil => rfl
  | cons c l ih =>
    show over (by1 (y ^^^ d) c) l = over (by1 y c) l ^^^ _
    have e : by1 (y ^^^ d) c = by1 y c ^^^ shN 8 d := by
      unfold by1; rw [← shN_xor]; congr 1; rw [BitVec.xor_assoc, BitVec.xor_assoc, BitVec.xor_comm d]
    rw [e, ih, shN_add, List.length_cons]; congr 2; omega
theorem join_sum (l : List (BitVec 8)) (m : Nat) (_h : m ≤ l.length) : shN (8 * (l.length - m)) (upd 0#32 (l.take m)) ^^^ upd 0#32 (l.drop m) = upd 0#32 l := by
  rw [← upd_cut l m]
  generalize upd 0#32 (l.take m) = x
  unfold upd
  have h := over_lin (l.drop m) (~~~ 0#32) x
  have e : ~~~ 0#32 ^^^ x = ~~~ x := by
    rw [show ~~~ 0#32 = BitVec.allOnes 32 from by decide, BitVec.allOnes_xor]
  rw [e, List.length_drop] at h
  rw [h]
  generalize over (~~~ 0#32) (l.drop m) = y
  generalize shN (8 * (l.length - m)) x = z
  rw [← BitVec.xor_allOnes, ← BitVec.xor_allOnes]
  ac_rfl
theorem join_none (r : BitVec 32) : shN (8 * 0) r ^^^ upd 0#32 [] = r := by
  have e : upd 0#32 [] = 0#32 := by decide
  rw [e]; simp [shN]
theorem update_ex (x : BitVec 32) (v : Value) (l : List (BitVec 8)) (w : World) (hv : Bytes w v l) :
    Calls Try.prog 17 #[.int .u32 (u x), v] w fun e w' => ∃ r, e = .returned (.int .u32 (u r)) ∧ Aside (r = upd x l) ∧ Below w.heap.size w w' :=
  (update_any x v l w hv).mono fun _ _ h => ⟨_, h.1, rfl, h.2⟩

theorem three (w : World) {x y : Value} {l m : List (BitVec 8)} (hx : Bytes w x l) (hy : Bytes w y m) :
    Lists (w.alloc (.cells #[x, .slice none 0 0, y] 28)) (.slice (some ⟨w.heap.size, 0, none⟩) 3 3) [l, [], m] := by
  have hb : Below w.heap.size w (w.alloc (.cells #[x, .slice none 0 0, y] 28)) := (Below.refl _ _).alloc (Nat.le_refl _) _
  refine ⟨_, 3, rfl, by simp, by decide, fun k hk => ?_⟩
  have hk' : k < 3 := hk
  match k, hk' with
  | 0, _ => exact ⟨w.heap.size, 0, x, rfl, by rw [World.cell?_alloc_new]; rfl, hx.below hb⟩
  | 1, _ => exact ⟨w.heap.size, 0, _, rfl, by rw [World.cell?_alloc_new]; rfl, Bytes.nil _⟩
  | 2, _ => exact ⟨w.heap.size, 0, y, rfl, by rw [World.cell?_alloc_new]; rfl, hy.below hb⟩

set_option maxHeartbeats 2000000 in
theorem sumJoins_walk (v : Value) (l : List (BitVec 8)) (n : Int) (w : World) (b : Bytes w v l) (s : l.length ≤ 1048576) (_c : -9223372036854775808 ≤ n ∧ n ≤ 9223372036854775807) :
    Calls Try.prog 6 #[v, .int .i64 n] w fun e w' => e = .returned (.bool true) ∧ Below w.heap.size w w' := by
  have V : Aside (Bytes w v l) := b
  obtain ⟨a, cap, rfl, hlc, hcm, hnil, _⟩ := b
  unfold maxLen at hcm
  go_enter Try.func6, Try.ntmps6
  go_wp2_with fail
  refine (fixed_any _).mono ?_
  rintro e w1 ⟨rfl, hb⟩
  have B1 : Aside (Below w.heap.size w w1) := hb
  clear hb
  by_cases hn : n < 0 ∨ (l.length : Int) < n
  · have c : (decide (n < 0) || decide ((l.length : Int) < n)) = true := by
      rcases hn with h | h <;> simp [h]
    clear hn V
    go_wp2_with fail
    all_goals (go_ret; exact ⟨rfl, B1.out⟩)
  obtain ⟨m, rfl⟩ := Int.eq_ofNat_of_zero_le (show 0 ≤ n by omega)
  have c1 : ¬ ((m : Int) < 0) := by omega
  have c2 : ¬ ((l.length : Int) < (m : Int)) := by omega
  have c3 : m ≤ l.length := by omega
  clear hn
  go_wp2_with fail
  refine (dup_any _ (l.take m) w1 ((V.out.below B1.out).take m c3) (by rw [List.length_take]; omega)).mono ?_
  rintro e w2 ⟨v2, rfl, ho, hb⟩
  have O2 : Aside (Own w1.heap.size w2 v2 (l.take m)) := ho
  have B2 : Aside (Below w.heap.size w w2) := B1.out.trans (hb.mono B1.out.size)
  clear hb ho B1
  rcases (by omega : m < cap ∨ m = cap) with hm | rfl
  all_goals
    go_wp2_with fail
    refine (dup_any _ (l.drop m) w2 (by first | exact (V.out.below B2.out).drop m c3 | exact (V.out.below B2.out).drop_all c3 | exact Bytes.zero _ _ (List.drop_eq_nil_of_le (by omega))) (by rw [List.length_drop]; omega)).mono ?_
    rintro e w3 ⟨v3, rfl, ho, hb⟩
    have O3 : Aside (Own w2.heap.size w3 v3 (l.drop m) ∧ Own w1.heap.size w3 v2 (l.take m)) := ⟨ho, O2.out.below hb⟩
    have B3 : Aside (Below w.heap.size w w3) := B2.out.trans (hb.mono B2.out.size)
    clear hb ho B2 O2
    obtain ⟨k, hk⟩ : ∃ k, l.length - m = k := ⟨_, rfl⟩
    obtain ⟨a3, cap3, rfl⟩ : ∃ a3 cap3, v3 = .slice a3 k cap3 := by
      obtain ⟨a3, cap3, e, _⟩ := O3.out.1.bytes; rw [List.length_drop, hk] at e; exact ⟨a3, cap3, e⟩
    obtain ⟨a2, cap2, rfl⟩ : ∃ a2 cap2, v2 = .slice a2 m cap2 := by
      obtain ⟨a2, cap2, e, _⟩ := O3.out.2.bytes; rw [List.length_take, Nat.min_eq_left c3] at e; exact ⟨a2, cap2, e⟩
    have K : Aside (l.length - m = k ∧ k ≤ 1048576) := ⟨hk, by omega⟩
    clear hk
    go_wp2_with fail
    refine (dup_any _ l w3 (V.out.below B3.out) (by omega)).mono ?_
    rintro e w4 ⟨v4, rfl, ho, hb⟩
    have O4 : Aside (Own w3.heap.size w4 v4 l ∧ Own w2.heap.size w4 (.slice a3 k cap3) (l.drop m) ∧ Own w1.heap.size w4 (.slice a2 m cap2) (l.take m)) := ⟨ho, O3.out.1.below hb, O3.out.2.below hb⟩
    have B4 : Aside (Below w.heap.size w w4) := B3.out.trans (hb.mono B3.out.size)
    clear hb ho B3 O3
    go_wp2_with fail
    refine (sum_ex v4 l w4 O4.out.1.bytes).mono ?_
    rintro e w5 ⟨r, rfl, er, hb⟩
    have O5 : Aside (Own w2.heap.size w5 (.slice a3 k cap3) (l.drop m) ∧ Own w1.heap.size w5 (.slice a2 m cap2) (l.take m)) := ⟨O4.out.2.1.below hb, O4.out.2.2.below hb⟩
    have B5 : Aside (Below w.heap.size w w5) := B4.out.trans (hb.mono B4.out.size)
    clear hb B4 O4
    go_wp2_with fail
    refine (sum_ex _ (l.take m) w5 O5.out.2.bytes).mono ?_
    rintro e w6 ⟨r1, rfl, er1, hb⟩
    have O6 : Aside (Own w2.heap.size w6 (.slice a3 k cap3) (l.drop m) ∧ Own w1.heap.size w6 (.slice a2 m cap2) (l.take m)) := ⟨O5.out.1.below hb, O5.out.2.below hb⟩
    have B6 : Aside (Below w.heap.size w w6) := B5.out.trans (hb.mono B5.out.size)
    clear hb B5 O5
    go_wp2_with fail
    refine (sum_ex _ (l.drop m) w6 O6.out.1.bytes).mono ?_
    rintro e w7 ⟨r2, rfl, er2, hb⟩
    have O7 : Aside (Own w2.heap.size w7 (.slice a3 k cap3) (l.drop m) ∧ Own w1.heap.size w7 (.slice a2 m cap2) (l.take m)) := ⟨O6.out.1.below hb, O6.out.2.below hb⟩
    have B7 : Aside (Below w.heap.size w w7) := B6.out.trans (hb.mono B6.out.size)
    clear hb B6 O6
    go_wp2_with fail
    refine (join_ex r1 r2 k rfl (by have := K.out.2; omega) _).mono ?_
    rintro e w7' ⟨r3, rfl, er3, rfl⟩
    have E3 : Aside (r3 = r) := by
      rw [Aside, er3.out, er1.out, er2.out, er.out, ← K.out.1]; exact join_sum l m c3
    go_wp2_with fail
    refine (sum_ex _ [] _ (Bytes.nil _)).mono ?_
    rintro e w8 ⟨r4, rfl, er4, hb⟩
    have O8 : Aside (Own w2.heap.size w8 (.slice a3 k cap3) (l.drop m) ∧ Own w1.heap.size w8 (.slice a2 m cap2) (l.take m)) := ⟨O7.out.1.below hb, O7.out.2.below hb⟩
    have B8 : Aside (Below w.heap.size w w8) := B7.out.trans (hb.mono B7.out.size)
    clear hb B7 O7
    go_wp2_with fail
    refine (join_ex r3 r4 0 rfl (by omega) _).mono ?_
    rintro e w8' ⟨r5, rfl, er5, rfl⟩
    have E5 : Aside (r5 = r3) := by
      rw [Aside, er5.out, er4.out]; exact join_none r3
    go_wp2_with fail
    refine (sum_ex _ (l.take m) _ O8.out.2.bytes).mono ?_
    rintro e w9 ⟨r6, rfl, er6, hb⟩
    have O9 : Aside (Own w2.heap.size w9 (.slice a3 k cap3) (l.drop m) ∧ Own w1.heap.size w9 (.slice a2 m cap2) (l.take m)) := ⟨O8.out.1.below hb, O8.out.2.below hb⟩
    have B9 : Aside (Below w.heap.size w w9) := B8.out.trans (hb.mono B8.out.size)
    clear hb B8 O8
    go_wp2_with fail
    refine (update_ex r6 _ (l.drop m) _ O9.out.1.bytes).mono ?_
    rintro e w10 ⟨r7, rfl, er7, hb⟩
    have O10 : Aside (Own w2.heap.size w10 (.slice a3 k cap3) (l.drop m) ∧ Own w1.heap.size w10 (.slice a2 m cap2) (l.take m)) := ⟨O9.out.1.below hb, O9.out.2.below hb⟩
    have B10 : Aside (Below w.heap.size w w10) := B9.out.trans (hb.mono B9.out.size)
    have E7 : r7 = r := by rw [er7.out, er6.out, er.out]; exact upd_cut l m
    clear hb B9 O9
    obtain rfl : r3 = r := E3.out
    obtain rfl : r5 = r3 := E5.out
    subst E7
    clear E3 E5 er1 er2 er3 er4 er5 er6 er7
    go_wp2_with fail
    refine (parts_any _ [l.take m, [], l.drop m] _ (three w10 O10.out.2.bytes O10.out.1.bytes)).mono ?_
    rintro e w11 ⟨r8, rfl, er8, hb⟩
    have B11 : Aside (Below w.heap.size w w11) := (B10.out.alloc B10.out.size _).trans (hb.mono (by have := B10.out.size; simp; omega))
    have E8 : r8 = r7 := by rw [er8.out, er.out]; simp
    clear hb B10 O10 er8 er
    subst E8
    go_wp2_with fail
    go_ret
    exact ⟨rfl, B11.out⟩
end Go.Proofs.Ytfmgegkeidhdfaa
