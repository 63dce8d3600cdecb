/-
  THE WALK of SumPatchesTrue.
-/
import Derived.Test.YtfmgegkeidhdfaaLawJoins
import Derived.Laws.OwnMore
namespace Go.Proofs.Ytfmgegkeidhdfaa
open Go.RowKit

theorem Bytes.mid {w : World} {a : Option Addr} {cap : Nat} {l : List (BitVec 8)} (H : Bytes w (.slice a l.length cap) l) (k n : Nat) (h : k + n ≤ l.length) : Bytes w (.slice (Option.map (fun x => x.add k) a) n (cap - k)) ((l.drop k).take n) := by
  have h1 := H.drop k (by omega)
  have e : l.length - k = (l.drop k).length := by rw [List.length_drop]
  rw [e] at h1
  exact h1.take n (by rw [List.length_drop]; omega)
theorem Bytes.mid_none (w : World) (a : Option Addr) (l : List (BitVec 8)) (n : Nat) (h : n = 0) : Bytes w (.slice a n 0) (l.take n) := by
  subst h; exact Bytes.zero w a (by simp)

/-- l with the first i bytes of m laid over it from k on. -/
def laidOver (l m : List (BitVec 8)) (k i : Nat) : List (BitVec 8) := l.take k ++ (m.take i ++ l.drop (k + i))
theorem laidOver_zero (l m : List (BitVec 8)) (k : Nat) : laidOver l m k 0 = l := by simp [laidOver]
theorem laidOver_length (l m : List (BitVec 8)) (k i : Nat) (h : k + m.length ≤ l.length) (hi : i ≤ m.length) : (laidOver l m k i).length = l.length := by
  simp [laidOver]; omega
theorem laidOver_set (l m : List (BitVec 8)) (k i : Nat) (h : k + m.length ≤ l.length) (hi : i < m.length) : (laidOver l m k i).set (k + i) (m.getD i 0#8) = laidOver l m k (i + 1) := by
  unfold laidOver
  rw [take_one m i 0#8 hi]
  have e1 : (l.take k).length = k := by rw [List.length_take]; omega
  have e2 : (m.take i).length = i := by rw [List.length_take]; omega
  rw [List.set_append_right _ _ (by omega), e1, Nat.add_sub_cancel_left, List.set_append_right _ _ (by omega), e2, Nat.sub_self]
  rw [List.drop_eq_getElem_cons (show k + i < l.length by omega)]
  simp [Nat.add_assoc]
theorem over_diff (q : List (BitVec 8)) (a b : BitVec 32) : over a q ^^^ over b q = shN (8 * q.length) (a ^^^ b) := by
  have h : over (b ^^^ (b ^^^ a)) q = over b q ^^^ shN (8 * q.length) (b ^^^ a) := over_lin q b (b ^^^ a)
  rw [← BitVec.xor_assoc, BitVec.xor_self, BitVec.zero_xor] at h
  rw [h, BitVec.xor_comm, ← BitVec.xor_assoc, BitVec.xor_self, BitVec.zero_xor, BitVec.xor_comm]
theorem over_two (o n : List (BitVec 8)) (h : n.length = o.length) (y z : BitVec 32) : over y o ^^^ over y n = over z o ^^^ over z n := by
  have h1 : over (z ^^^ (z ^^^ y)) o = over z o ^^^ shN (8 * o.length) (z ^^^ y) := over_lin o z _
  have h2 : over (z ^^^ (z ^^^ y)) n = over z n ^^^ shN (8 * n.length) (z ^^^ y) := over_lin n z _
  rw [← BitVec.xor_assoc, BitVec.xor_self, BitVec.zero_xor] at h1 h2
  rw [h1, h2, h]
  generalize over z o = A
  generalize over z n = B
  generalize shN (8 * o.length) (z ^^^ y) = C
  rw [show A ^^^ C ^^^ (B ^^^ C) = A ^^^ B ^^^ (C ^^^ C) by ac_rfl, BitVec.xor_self, BitVec.xor_zero]
theorem not_xor_not (a b : BitVec 32) : ~~~ a ^^^ ~~~ b = a ^^^ b := by
  rw [← BitVec.xor_allOnes, ← BitVec.xor_allOnes, show a ^^^ BitVec.allOnes 32 ^^^ (b ^^^ BitVec.allOnes 32) = a ^^^ b ^^^ (BitVec.allOnes 32 ^^^ BitVec.allOnes 32) by ac_rfl, BitVec.xor_self, BitVec.xor_zero]
theorem patch_true (p o n q : List (BitVec 8)) (h : n.length = o.length) : patch (upd 0#32 (p ++ (o ++ q))) q.length o n = upd 0#32 (p ++ (n ++ q)) := by
  unfold patch upd
  rw [not_xor_not, over_app, over_app, over_app, over_app]
  generalize over (~~~ 0#32) p = y
  rw [over_two o n h (~~~ 0#32) y]
  have e := over_diff q (over y o) (over y n)
  rw [← e]
  rw [← BitVec.xor_allOnes, ← BitVec.xor_allOnes]
  generalize over (over y o) q = A
  generalize over (over y n) q = B
  rw [show A ^^^ BitVec.allOnes 32 ^^^ (A ^^^ B) = (A ^^^ A) ^^^ (B ^^^ BitVec.allOnes 32) by ac_rfl, BitVec.xor_self, BitVec.zero_xor]
theorem cut_three (l m : List (BitVec 8)) (k : Nat) : l = l.take k ++ ((l.drop k).take m.length ++ l.drop (k + m.length)) := by
  conv => lhs; rw [← List.take_append_drop k l, ← List.take_append_drop m.length (l.drop k), List.drop_drop]
theorem patch_law (l m : List (BitVec 8)) (k : Nat) (h : k + m.length ≤ l.length) :
    patch (upd 0#32 l) (l.length - k - ((l.drop k).take m.length).length) ((l.drop k).take m.length) m = upd 0#32 (laidOver l m k m.length) ∧
    patch (upd 0#32 (laidOver l m k m.length)) (l.length - k - m.length) m ((l.drop k).take m.length) = upd 0#32 l := by
  have e0 : ((l.drop k).take m.length).length = m.length := by rw [List.length_take, List.length_drop]; omega
  have e1 : l.length - k - m.length = (l.drop (k + m.length)).length := by rw [List.length_drop]; omega
  have e2 : laidOver l m k m.length = l.take k ++ (m ++ l.drop (k + m.length)) := by unfold laidOver; rw [List.take_length]
  constructor
  · rw [e0, e1, e2]
    conv => lhs; arg 1; rw [cut_three l m k]
    exact patch_true _ _ _ _ e0.symm
  · rw [e1, e2]
    conv => rhs; rw [cut_three l m k]
    exact patch_true _ _ _ _ e0

theorem own_set {B : Nat} {w : World} {g n cap : Nat} {c : List (BitVec 8)} (h : Own B w (.slice (some ⟨g, 0, none⟩) n cap) c) (q : Nat) (z : BitVec 8) :
    Own B (w.setCell ⟨g, q, none⟩ (.int .u8 (c8 z))) (.slice (some ⟨g, 0, none⟩) n cap) (c.set q z) := by
  have hn : n = c.length := by
    obtain ⟨_, ⟨hv, _⟩ | ⟨g', cap', cur, hv, _⟩⟩ := h
    · simp at hv
    · simp only [Value.slice.injEq] at hv; exact hv.2.1
  subst hn
  have h1 : w.ownsRow B 5 1 (.slice (some ⟨g, 0, none⟩) c.length cap) c.length (cells8 c) := h
  have h2 := (h1.stored q (.int .u8 (c8 z))).1
  have e : (cells8 c).set q (.int .u8 (c8 z)) = cells8 (c.set q z) := by simp [cells8, List.map_set]
  rw [e] at h2
  show World.ownsRow _ _ _ _ _ _ _
  rw [List.length_set]; exact h2

set_option maxHeartbeats 4000000 in
theorem sumPatchesTrue_walk (v : Value) (l : List (BitVec 8)) (n : Int) (v' : Value) (m : List (BitVec 8)) (w : World) (b : Bytes w v l) (s : l.length ≤ 1048576) (_c : -9223372036854775808 ≤ n ∧ n ≤ 9223372036854775807) (b' : Bytes w v' m) (s' : m.length ≤ 1048576) :
    Calls Try.prog 4 #[v, .int .i64 n, v'] w fun e w' => e = .returned (.bool true) ∧ Below w.heap.size w w' := by
  have V : Aside (Bytes w v l) := b
  have V' : Aside (Bytes w v' m) := b'
  obtain ⟨a, cap, rfl, hlc, hcm, hnil, _⟩ := b
  obtain ⟨a', cap', rfl, _, _, _, _⟩ := b'
  unfold maxLen at hcm
  go_enter Try.func4, Try.ntmps4
  go_wp2_with fail
  refine (fixed_any _).mono ?_
  rintro e w1 ⟨rfl, hb⟩
  have B1 : Aside (Below w.heap.size w w1) := hb
  clear hb
  by_cases hn : n < 0 ∨ (l.length : Int) < n ∨ (l.length : Int) - n < (m.length : Int)
  · have c : (decide (n < 0) || decide ((l.length : Int) < n) || decide ((l.length : Int) - n < (m.length : Int))) = true := by
      rcases hn with h | h | h <;> simp [h]
    clear hn V V'
    go_wp2_with fail
    all_goals (go_ret; exact ⟨rfl, B1.out⟩)
  obtain ⟨k, rfl⟩ := Int.eq_ofNat_of_zero_le (show 0 ≤ n by omega)
  have c1 : ¬ ((k : Int) < 0) := by omega
  have c2 : ¬ ((l.length : Int) < (k : Int)) := by omega
  have c3 : ¬ ((l.length : Int) - (k : Int) < (m.length : Int)) := by omega
  have c4 : k + m.length ≤ l.length := by omega
  clear hn
  rcases (by omega : k < cap ∨ k = cap) with hm | rfl
  all_goals
    go_wp2_with fail
    refine (dup_any _ ((l.drop k).take m.length) w1 (by first | exact (V.out.below B1.out).mid k m.length c4 | exact Bytes.mid_none _ _ _ _ (by omega)) (by rw [List.length_take]; omega)).mono ?_
    rintro e w2 ⟨v2, rfl, ho, hb⟩
    have O2 : Aside (Own w1.heap.size w2 v2 ((l.drop k).take m.length)) := ho
    have B2 : Aside (Below w.heap.size w w2) := B1.out.trans (hb.mono B1.out.size)
    clear hb ho B1
    go_wp2_with fail
    refine (dup_any _ l w2 (V.out.below B2.out) (by omega)).mono ?_
    rintro e w3 ⟨v3, rfl, ho, hb⟩
    have O3 : Aside (Own w2.heap.size w3 v3 l ∧ Own w1.heap.size w3 v2 ((l.drop k).take m.length)) := ⟨ho, O2.out.below hb⟩
    have B3 : Aside (Below w.heap.size w w3 ∧ Below w2.heap.size w2 w3) := ⟨B2.out.trans (hb.mono B2.out.size), hb⟩
    clear hb ho
    obtain ⟨a3, cap3, rfl⟩ : ∃ a3 cap3, v3 = .slice a3 l.length cap3 := by
      obtain ⟨a3, cap3, e, _⟩ := O3.out.1.bytes; exact ⟨a3, cap3, e⟩
    go_wp2_with fail
    go_loopg [10] m.length (fun g si wr => ∃ (i : Nat), i ≤ m.length ∧ g = m.length - i ∧ si = .int .i64 i ∧ Own w2.heap.size wr (.slice a3 l.length cap3) (laidOver l m k i) ∧ Below w2.heap.size w2 wr)
    case atStart => exact ⟨0, Nat.zero_le _, rfl, rfl, by rw [laidOver_zero]; exact O3.out.1, B3.out.2⟩
    case round =>
      obtain ⟨i, hi, hg, rfl, ho, hb⟩ := hrel
      have R : Aside (gk = m.length - i ∧ Own w2.heap.size wr (.slice a3 l.length cap3) (laidOver l m k i) ∧ Below w2.heap.size w2 wr) := ⟨hg, ho, hb⟩
      clear hg ho hb O3 B3
      by_cases hlt : i < m.length
      · first
          | (exfalso; omega)
          | (obtain ⟨ho, hb⟩ : Own w2.heap.size wr (.slice a3 l.length cap3) (laidOver l m k i) ∧ Below w2.heap.size w2 wr := R.out.2
             obtain ⟨g, rfl, hg⟩ : ∃ g, a3 = some ⟨g, 0, none⟩ ∧ w2.heap.size ≤ g := by
               obtain ⟨_, ⟨hv, _⟩ | ⟨g, cap', cur, hv, hB, _⟩⟩ := ho
               · simp only [Value.slice.injEq] at hv; omega
               · simp only [Value.slice.injEq] at hv; exact ⟨g, hv.1, hB⟩
             have hlen := laidOver_length l m k i c4 hi
             have ho' : wr.ownsRow w2.heap.size 5 1 (.slice (some ⟨g, 0, none⟩) l.length cap3) l.length (cells8 (laidOver l m k i)) := by have := ho; unfold Own at this; rw [hlen] at this; exact this
             have hcell : wr.cell? ⟨g, k + i, none⟩ = some (.int .u8 (c8 ((laidOver l m k i).getD (k + i) 0#8))) := by rw [ho'.cellAt (k + i) (by omega), cells8_at (by omega)]
             have hfro : wr.frozen? ⟨g, k + i, none⟩ = false := ho'.frozenAt (k + i)
             obtain ⟨y, hy⟩ : ∃ y, y = (laidOver l m k i).getD (k + i) 0#8 := ⟨_, rfl⟩
             rw [← hy] at hcell
             obtain ⟨z, hz⟩ : ∃ z, z = m.getD i 0#8 := ⟨_, rfl⟩
             obtain ⟨b1, off1, rfl, hc1⟩ : ∃ b1 off1, a' = some ⟨b1, off1, none⟩ ∧ wr.cell? ⟨b1, off1 + i, none⟩ = some (.int .u8 (c8 z)) := by
               have hv := (V'.out.below B2.out).below hb
               obtain ⟨aa, cc, e, _, _, _, hc⟩ := hv
               simp only [Value.slice.injEq, true_and] at e
               obtain ⟨rfl, rfl⟩ := e
               rw [hz]; exact hc i hlt
             have Z : Aside (z = m.getD i 0#8) := hz
             have q1 : (k : Int) + (i : Int) < (l.length : Int) := by omega
             clear hy hz ho ho' hlen hb
             go_wp2_with fail
             go_roundg (m.length - (i + 1))
             case measure => have := R.out.1; omega
             case rel =>
               obtain ⟨_, ho, hb⟩ := R.out
               refine ⟨i + 1, by omega, rfl, by go_num, ?_, hb.setCell hg _⟩
               rw [Z.out, ← laidOver_set l m k i c4 hlt]
               exact own_set ho (k + i) _)
      · obtain ⟨w4, rfl⟩ : ∃ w4, w4 = wr := ⟨_, rfl⟩
        have O4 : Aside (Own w2.heap.size w4 (.slice a3 l.length cap3) (laidOver l m k m.length) ∧ Own w1.heap.size w4 v2 ((l.drop k).take m.length)) := by
          obtain ⟨_, ho, hb⟩ := R.out
          obtain rfl : i = m.length := by omega
          exact ⟨ho, O2.out.below hb⟩
        have B4 : Aside (Below w.heap.size w w4) := B2.out.trans (R.out.2.2.mono B2.out.size)
        clear R B2 O2
        go_wp2_with fail
        refine (dup_any _ l w4 (V.out.below B4.out) (by omega)).mono ?_
        rintro e w5 ⟨v5, rfl, ho, hb⟩
        have O5 : Aside (Own w4.heap.size w5 v5 l ∧ Own w2.heap.size w5 (.slice a3 l.length cap3) (laidOver l m k m.length) ∧ Own w1.heap.size w5 v2 ((l.drop k).take m.length)) := ⟨ho, O4.out.1.below hb, O4.out.2.below hb⟩
        have B5 : Aside (Below w.heap.size w w5) := B4.out.trans (hb.mono B4.out.size)
        clear ho hb O4 B4
        go_wp2_with fail
        refine (sum_ex v5 l w5 O5.out.1.bytes).mono ?_
        rintro e w6 ⟨r, rfl, er, hb⟩
        have O6 : Aside (Own w2.heap.size w6 (.slice a3 l.length cap3) (laidOver l m k m.length) ∧ Own w1.heap.size w6 v2 ((l.drop k).take m.length)) := ⟨O5.out.2.1.below hb, O5.out.2.2.below hb⟩
        have B6 : Aside (Below w.heap.size w w6) := B5.out.trans (hb.mono B5.out.size)
        clear hb O5 B5
        go_wp2_with fail
        refine (dup_any _ m w6 (V'.out.below B6.out) (by omega)).mono ?_
        rintro e w7 ⟨v7, rfl, ho, hb⟩
        have O7 : Aside (Own w6.heap.size w7 v7 m ∧ Own w2.heap.size w7 (.slice a3 l.length cap3) (laidOver l m k m.length) ∧ Own w1.heap.size w7 v2 ((l.drop k).take m.length)) := ⟨ho, O6.out.1.below hb, O6.out.2.below hb⟩
        have B7 : Aside (Below w.heap.size w w7) := B6.out.trans (hb.mono B6.out.size)
        clear ho hb O6 B6
        have L : Aside (((l.drop k).take m.length).length = m.length) := by rw [Aside, List.length_take, List.length_drop]; omega
        go_wp2_with fail
        refine (patch_any r l.length k v2 v7 _ m w7 O7.out.2.2.bytes O7.out.1.bytes (by omega) L.out.symm (by rw [L.out]; omega)).mono ?_
        rintro e w8 ⟨r1, rfl, er1, hb⟩
        have O8 : Aside (Own w2.heap.size w8 (.slice a3 l.length cap3) (laidOver l m k m.length) ∧ Own w1.heap.size w8 v2 ((l.drop k).take m.length)) := ⟨O7.out.2.1.below hb, O7.out.2.2.below hb⟩
        have B8 : Aside (Below w.heap.size w w8) := B7.out.trans (hb.mono B7.out.size)
        have E1 : Aside (r1 = upd 0#32 (laidOver l m k m.length)) := by rw [Aside, er1.out, er.out]; exact (patch_law l m k c4).1
        clear hb O7 B7 er1
        go_wp2_with fail
        refine (dup_any _ m w8 (V'.out.below B8.out) (by omega)).mono ?_
        rintro e w9 ⟨v9, rfl, ho, hb⟩
        have O9 : Aside (Own w8.heap.size w9 v9 m ∧ Own w2.heap.size w9 (.slice a3 l.length cap3) (laidOver l m k m.length) ∧ Own w1.heap.size w9 v2 ((l.drop k).take m.length)) := ⟨ho, O8.out.1.below hb, O8.out.2.below hb⟩
        have B9 : Aside (Below w.heap.size w w9) := B8.out.trans (hb.mono B8.out.size)
        clear ho hb O8 B8
        go_wp2_with fail
        refine (patch_any r1 l.length k v9 v2 m _ w9 O9.out.1.bytes O9.out.2.2.bytes (by omega) L.out c4).mono ?_
        rintro e w10 ⟨r2, rfl, er2, hb⟩
        have O10 : Aside (Own w2.heap.size w10 (.slice a3 l.length cap3) (laidOver l m k m.length)) := O9.out.2.1.below hb
        have B10 : Aside (Below w.heap.size w w10) := B9.out.trans (hb.mono B9.out.size)
        have E2 : Aside (r2 = r) := by rw [Aside, er2.out, E1.out, er.out]; exact (patch_law l m k c4).2
        clear hb O9 B9 er2
        go_wp2_with fail
        refine (sum_ex _ _ w10 O10.out.bytes).mono ?_
        rintro e w11 ⟨r3, rfl, er3, hb⟩
        have B11 : Aside (Below w.heap.size w w11) := B10.out.trans (hb.mono B10.out.size)
        have E3 : r3 = r1 := by rw [er3.out, E1.out]
        clear hb B10 O10 er3
        subst E3
        go_wp2_with fail
        refine (dup_any _ l w11 (V.out.below B11.out) (by omega)).mono ?_
        rintro e w12 ⟨v12, rfl, ho, hb⟩
        have O12 : Aside (Own w11.heap.size w12 v12 l) := ho
        have B12 : Aside (Below w.heap.size w w12) := B11.out.trans (hb.mono B11.out.size)
        clear ho hb B11
        go_wp2_with fail
        refine (sum_ex _ l w12 O12.out.bytes).mono ?_
        rintro e w13 ⟨r4, rfl, er4, hb⟩
        have B13 : Aside (Below w.heap.size w w13) := B12.out.trans (hb.mono B12.out.size)
        have E4 : r4 = r2 := by rw [er4.out, E2.out, er.out]
        clear hb B12 O12 er4 E1 E2 er
        subst E4
        go_wp2_with fail
        go_ret
        exact ⟨rfl, B13.out⟩
end Go.Proofs.Ytfmgegkeidhdfaa
