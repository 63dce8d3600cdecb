/-
  THE WALK of SumKeepsApart (its chains of facts written by program: tools/gen_keeps.py).
-/
import Derived.Test.YtfmgegkeidhdfabMarks
import Derived.Test.YtfmgegkeidhdfabBurst
import Derived.ArgAppend
import Derived.Laws.OwnMore
import Derived.Deep.QuietTactic
import Derived.BigQuiet
namespace Go.Proofs.Ytfmgegkeidhdfab
open Go.RowKit

theorem sealed_front (l : List (BitVec 8)) : (sealed l).take ((sealed l).length - 4) = l := by
  rw [seal_length, Nat.add_sub_cancel]; simp [sealed]
theorem own_kept {B : Nat} {w w' : World} {a g m c : Nat} {l : List (BitVec 8)} (h : Own B w (.slice (some ⟨a, 0, none⟩) m c) l) (hg : w.grownBy w' (some g)) (hne : a ≠ g) : Own B w' (.slice (some ⟨a, 0, none⟩) m c) l :=
  World.ownsRow.kept h hg (Or.inr (by simp only [Value.ownBlock]; intro e; exact hne (by simpa using e)))
theorem own_lt {B : Nat} {w : World} {a m c : Nat} {l : List (BitVec 8)} (h : Own B w (.slice (some ⟨a, 0, none⟩) m c) l) : B ≤ a ∧ a < w.heap.size := World.ownsRow.lt h a rfl
theorem own_len {B : Nat} {w : World} {a : Option Addr} {m c : Nat} {l : List (BitVec 8)} (h : Own B w (.slice a m c) l) : l.length = m := by
  obtain ⟨a', cap, e, _⟩ := h.bytes
  simp only [Value.slice.injEq] at e
  exact e.2.1.symm
/-- The first i bytes raised by one. -/
def incs (l : List (BitVec 8)) (i : Nat) : List (BitVec 8) := (l.take i).map (· + 1#8) ++ l.drop i
theorem incs_zero (l : List (BitVec 8)) : incs l 0 = l := by simp [incs]
theorem incs_length (l : List (BitVec 8)) (i : Nat) : (incs l i).length = l.length := by simp [incs]; omega
theorem incs_at (l : List (BitVec 8)) (i : Nat) : (incs l i).getD i 0#8 = l.getD i 0#8 := by
  by_cases h : i < l.length
  · have e : ((l.take i).map (· + 1#8)).length = i := by simp; omega
    simp only [incs, List.getD, List.getElem?_append_right (show ((l.take i).map (· + 1#8)).length ≤ i by omega)]
    rw [e, Nat.sub_self, List.getElem?_drop]; simp
  · have h1 : (incs l i)[i]? = none := List.getElem?_eq_none (by rw [incs_length]; omega)
    have h2 : l[i]? = none := List.getElem?_eq_none (by omega)
    simp only [List.getD, h1, h2]
theorem incs_set (l : List (BitVec 8)) (i : Nat) (h : i < l.length) : (incs l i).set i (l.getD i 0#8 + 1#8) = incs l (i + 1) := by
  have e : ((l.take i).map (· + 1#8)).length = i := by simp; omega
  unfold incs
  have e2 : l.drop i = l.getD i 0#8 :: l.drop (i + 1) := by rw [List.drop_eq_getElem_cons h]; simp [h]
  rw [take_one l i 0#8 h, List.map_append, List.set_append_right _ _ (by omega), e, Nat.sub_self, e2, List.set_cons_zero]
  simp only [List.map_cons, List.map_nil, List.append_assoc, List.cons_append, List.nil_append]
theorem incs_all (l : List (BitVec 8)) (i : Nat) (h : i < l.length) : (incs l l.length).getD i 0#8 = l.getD i 0#8 + 1#8 := by
  simp [incs, List.getD, h]
theorem u8_inc (y : BitVec 8) : (c8 y + 1) % (256 : Int) = c8 (y + 1#8) := by
  unfold c8; rw [BitVec.toNat_add]; simp
theorem own_put {B : Nat} {w : World} {g m cap : Nat} {c : List (BitVec 8)} (h : Own B w (.slice (some ⟨g, 0, none⟩) m cap) c) (q : Nat) (z : BitVec 8) :
    Own B (w.setCell ⟨g, q, none⟩ (.int .u8 (c8 z))) (.slice (some ⟨g, 0, none⟩) m cap) (c.set q z) := by
  obtain rfl : c.length = m := own_len h
  have h1 : w.ownsRow B 5 1 (.slice (some ⟨g, 0, none⟩) c.length cap) c.length (cells8 c) := h
  have h2 := (h1.stored q (.int .u8 (c8 z))).1
  have e : (cells8 c).set q (.int .u8 (c8 z)) = cells8 (c.set q z) := by simp [cells8, List.map_set]
  rw [e] at h2
  show World.ownsRow _ _ _ _ _ _ _
  rw [List.length_set]; exact h2
theorem put_grown (w : World) (g q : Nat) (v : Value) : w.grownBy (w.setCell ⟨g, q, none⟩ v) (some g) :=
  ⟨rfl, rfl, rfl, by simp, fun k _ hk => heap_setCell_other w ⟨g, q, none⟩ k v (fun e => hk (by simp [e]))⟩
theorem grown_trans {w w1 w2 : World} {r : Option Nat} (h1 : w.grownBy w1 r) (h2 : w1.grownBy w2 r) : w.grownBy w2 r :=
  ⟨h2.os.trans h1.os, h2.tape.trans h1.tape, h2.output.trans h1.output, Nat.le_trans h1.size h2.size, fun k hk hr => (h2.block k (Nat.lt_of_lt_of_le hk h1.size) hr).trans (h1.block k hk hr)⟩
theorem cell_in {B : Nat} {w : World} {g m cap : Nat} {c : List (BitVec 8)} (h : Own B w (.slice (some ⟨g, 0, none⟩) m cap) c) (i : Nat) (hi : i < c.length) : w.cell? ⟨g, i, none⟩ = some (.int .u8 (c8 (c.getD i 0#8))) := by
  obtain rfl : c.length = m := own_len h
  have h1 : w.ownsRow B 5 1 (.slice (some ⟨g, 0, none⟩) c.length cap) c.length (cells8 c) := h
  rw [h1.cellAt i (by omega), cells8_at hi]
theorem free_in {B : Nat} {w : World} {g m cap : Nat} {c : List (BitVec 8)} (h : Own B w (.slice (some ⟨g, 0, none⟩) m cap) c) (i : Nat) : w.frozen? ⟨g, i, none⟩ = false := by
  obtain rfl : c.length = m := own_len h
  have h1 : w.ownsRow B 5 1 (.slice (some ⟨g, 0, none⟩) c.length cap) c.length (cells8 c) := h
  exact h1.frozenAt i
theorem head_in {B : Nat} {w : World} {g m cap k : Nat} {c d : List (BitVec 8)} (h : Own B w (.slice (some ⟨g, 0, none⟩) m cap) (c ++ d)) (hk : c.length = k) : Bytes w (.slice (some ⟨g, 0, none⟩) k cap) c := by
  have hl := own_len h
  have h1 := h.bytes
  rw [← hl] at h1
  have h2 := h1.take k (by rw [List.length_append]; omega)
  rw [← hk, List.take_left] at h2
  rw [hk] at h2; exact h2
theorem three_x (w : World) {x y : Value} {l m : List (BitVec 8)} (hx : Bytes w x l) (hy : Bytes w y m) :
    Lists (w.alloc (.cells #[x, y, x] 22)) (.slice (some ⟨w.heap.size, 0, none⟩) 3 3) [l, m, l] := by
  have hb : Below w.heap.size w (w.alloc (.cells #[x, y, x] 22)) := (Below.refl _ _).alloc (Nat.le_refl _) _
  refine ⟨_, 3, rfl, by simp, by decide, fun k hk => ?_⟩
  have hk' : k < 3 := hk
  match k, hk' with
  | 0, _ => exact ⟨w.heap.size, 0, x, rfl, by rw [World.cell?_alloc_new]; rfl, hx.below hb⟩
  | 1, _ => exact ⟨w.heap.size, 0, y, rfl, by rw [World.cell?_alloc_new]; rfl, hy.below hb⟩
  | 2, _ => exact ⟨w.heap.size, 0, x, rfl, by rw [World.cell?_alloc_new]; rfl, hx.below hb⟩
theorem update_seven (v : Value) (l : List (BitVec 8)) (w : World) (hv : Bytes w v l) :
    Calls Try.prog 11 #[.int .u32 7, v] w fun e w' => ∃ r, e = .returned (.int .u32 (u r)) ∧ Below w.heap.size w w' :=
  (update_any 7#32 v l w hv).mono fun _ _ h => ⟨_, h.1, h.2⟩

set_option maxHeartbeats 8000000 in
set_option maxRecDepth 100000 in
theorem sumKeepsApart_walk (v : Value) (l : List (BitVec 8)) (v' : Value) (m : List (BitVec 8)) (w : World) (b : Bytes w v l) (s : l.length ≤ 140737488351232) (b' : Bytes w v' m) (s' : m.length ≤ 140737488351232) :
    Calls Try.prog 3 #[v, v'] w fun e w' => e = .returned (.bool true) ∧ Below w.heap.size w w' := by
  obtain ⟨i0, hi, hz0, hz1, hz2⟩ := info_parts info_byte
  have V : Aside (Bytes w v l) := b
  have V' : Aside (Bytes w v' m) := b'
  obtain ⟨a, cap, rfl, _, _, _, _⟩ := b
  obtain ⟨a', cap', rfl, _, _, _, _⟩ := b'
  have SL : Aside ((sealed l).length = l.length + 4 ∧ (sealed m).length = m.length + 4) := ⟨seal_length l, seal_length m⟩
  go_enter Try.func3, Try.ntmps3
  go_wp2_with fail
  refine (fixed_any _).mono ?_
  rintro e w1 ⟨rfl, hb⟩
  have F1 : Aside (Below w.heap.size w w1) := hb
  clear hb
  go_wp2_with fail
  refine (roomy_any _ l w1 (V.out.below F1.out) (by omega)).mono ?_
  rintro e w2 ⟨gx, cx, rfl, hcx, ho, hb⟩
  have F2 : Aside (Below w.heap.size w w2 ∧ Own w1.heap.size w2 (.slice (some ⟨gx, 0, none⟩) (l.length + 3) cx) (l ++ marks)) := ⟨F1.out.trans (hb.mono F1.out.size), ho⟩
  clear ho hb F1
  go_wp2_with fail
  refine (roomy_any _ m w2 (V'.out.below F2.out.1) (by omega)).mono ?_
  rintro e w3 ⟨gy, cy, rfl, hcy, ho, hb⟩
  have F3 : Aside (Below w.heap.size w w3 ∧ Own w1.heap.size w3 (.slice (some ⟨gx, 0, none⟩) (l.length + 3) cx) (l ++ marks) ∧ Own w2.heap.size w3 (.slice (some ⟨gy, 0, none⟩) (m.length + 3) cy) (m ++ marks)) := ⟨F2.out.1.trans (hb.mono F2.out.1.size), F2.out.2.below hb, ho⟩
  clear ho hb F2
  go_wp2_with fail
  refine (seal_at _ l w3 (head_in F3.out.2.1 rfl) (by omega)).mono ?_
  rintro e w4 ⟨rfl, ho, hb⟩
  obtain ⟨gs, hgs⟩ : ∃ gs, gs = w3.heap.size := ⟨_, rfl⟩
  rw [← hgs] at ho ⊢
  have F4 : Aside (Below w.heap.size w w4 ∧ Own w1.heap.size w4 (.slice (some ⟨gx, 0, none⟩) (l.length + 3) cx) (l ++ marks) ∧ Own w2.heap.size w4 (.slice (some ⟨gy, 0, none⟩) (m.length + 3) cy) (m ++ marks) ∧ Own gs w4 (.slice (some ⟨gs, 0, none⟩) (l.length + 4) (l.length + 4)) (sealed l)) := ⟨F3.out.1.trans ((hgs ▸ hb : Below w3.heap.size w3 w4).mono F3.out.1.size), F3.out.2.1.below (hgs ▸ hb : Below w3.heap.size w3 w4), F3.out.2.2.below (hgs ▸ hb : Below w3.heap.size w3 w4), ho⟩
  clear ho hb hgs F3
  go_wp2_with fail
  refine (parts_any _ [l, m, l] _ (three_x w4 (head_in F4.out.2.1 rfl) (head_in F4.out.2.2.1 rfl))).mono ?_
  rintro e w5 ⟨r5, rfl, _, hb⟩
  have hb5 : Below w4.heap.size w4 w5 := ((Below.refl _ _).alloc (Nat.le_refl _) _).trans (hb.mono (by simp))
  clear hb
  have F5 : Aside (Below w.heap.size w w5 ∧ Own w1.heap.size w5 (.slice (some ⟨gx, 0, none⟩) (l.length + 3) cx) (l ++ marks) ∧ Own w2.heap.size w5 (.slice (some ⟨gy, 0, none⟩) (m.length + 3) cy) (m ++ marks) ∧ Own gs w5 (.slice (some ⟨gs, 0, none⟩) (l.length + 4) (l.length + 4)) (sealed l)) := ⟨F4.out.1.trans (hb5.mono F4.out.1.size), F4.out.2.1.below hb5, F4.out.2.2.1.below hb5, F4.out.2.2.2.below hb5⟩
  clear hb5 F4
  go_wp2_with fail
  refine (update_seven _ l w5 (head_in F5.out.2.1 rfl)).mono ?_
  rintro e w6 ⟨r6, rfl, hb⟩
  have F6 : Aside (Below w.heap.size w w6 ∧ Own w1.heap.size w6 (.slice (some ⟨gx, 0, none⟩) (l.length + 3) cx) (l ++ marks) ∧ Own w2.heap.size w6 (.slice (some ⟨gy, 0, none⟩) (m.length + 3) cy) (m ++ marks) ∧ Own gs w6 (.slice (some ⟨gs, 0, none⟩) (l.length + 4) (l.length + 4)) (sealed l)) := ⟨F5.out.1.trans (hb.mono F5.out.1.size), F5.out.2.1.below hb, F5.out.2.2.1.below hb, F5.out.2.2.2.below hb⟩
  clear hb F5
  go_wp2_with fail
  refine (marked_any gx l.length cx _ l w6 rfl F6.out.2.1.bytes (V.out.below F6.out.1)).mono ?_
  rintro e w6 ⟨rfl, rfl⟩
  go_wp2_with fail
  refine (marked_any gy m.length cy _ m w6 rfl F6.out.2.2.1.bytes (V'.out.below F6.out.1)).mono ?_
  rintro e w6 ⟨rfl, rfl⟩
  go_wp2_with fail
  refine (roomy_any _ (sealed l) w6 F6.out.2.2.2.bytes (by rw [SL.out.1]; omega)).mono ?_
  rintro e w7 ⟨gz, cz, rfl, hcz, ho, hb⟩
  rw [SL.out.1] at ho hcz ⊢
  have F7 : Aside (Below w.heap.size w w7 ∧ Own w1.heap.size w7 (.slice (some ⟨gx, 0, none⟩) (l.length + 3) cx) (l ++ marks) ∧ Own w2.heap.size w7 (.slice (some ⟨gy, 0, none⟩) (m.length + 3) cy) (m ++ marks) ∧ Own gs w7 (.slice (some ⟨gs, 0, none⟩) (l.length + 4) (l.length + 4)) (sealed l) ∧ Own w6.heap.size w7 (.slice (some ⟨gz, 0, none⟩) (l.length + 4 + 3) cz) (sealed l ++ marks)) := ⟨F6.out.1.trans (hb.mono F6.out.1.size), F6.out.2.1.below hb, F6.out.2.2.1.below hb, F6.out.2.2.2.below hb, ho⟩
  clear ho hb F6
  go_wp2_with fail
  refine (open_at _ (sealed l) w7 (head_in F7.out.2.2.2.2 SL.out.1) (by rw [SL.out.1]; omega) (by rw [SL.out.1]; omega)).mono ?_
  rintro e w8 (⟨hs, _⟩ | ⟨_, go, rfl, ho, hb⟩)
  · exact absurd (isSealed_sealed l) hs
  rw [sealed_front, SL.out.1, Nat.add_sub_cancel] at ho
  rw [SL.out.1, Nat.add_sub_cancel]
  have F8 : Aside (Below w.heap.size w w8 ∧ Own w1.heap.size w8 (.slice (some ⟨gx, 0, none⟩) (l.length + 3) cx) (l ++ marks) ∧ Own w2.heap.size w8 (.slice (some ⟨gy, 0, none⟩) (m.length + 3) cy) (m ++ marks) ∧ Own gs w8 (.slice (some ⟨gs, 0, none⟩) (l.length + 4) (l.length + 4)) (sealed l) ∧ Own w6.heap.size w8 (.slice (some ⟨gz, 0, none⟩) (l.length + 4 + 3) cz) (sealed l ++ marks) ∧ Own w7.heap.size w8 (.slice (some ⟨go, 0, none⟩) l.length l.length) (l)) := ⟨F7.out.1.trans (hb.mono F7.out.1.size), F7.out.2.1.below hb, F7.out.2.2.1.below hb, F7.out.2.2.2.1.below hb, F7.out.2.2.2.2.below hb, ho⟩
  have D1 : Aside (gx ≠ go ∧ gy ≠ go ∧ gs ≠ go ∧ gz ≠ go ∧ w.heap.size ≤ go ∧ go < w8.heap.size) := by
    have h1 := own_lt F7.out.2.1
    have h2 := own_lt F7.out.2.2.1
    have h3 := own_lt F7.out.2.2.2.1
    have h4 := own_lt F7.out.2.2.2.2
    have h5 := own_lt F8.out.2.2.2.2.2
    have h6 := F7.out.1.size
    exact ⟨by omega, by omega, by omega, by omega, by omega, by omega⟩
  clear ho hb F7
  go_wp2_with fail
  refine (open_at _ (sealed l) w8 (head_in F8.out.2.2.2.2.1 SL.out.1) (by rw [SL.out.1]; omega) (by rw [SL.out.1]; omega)).mono ?_
  rintro e w9 (⟨hs, _⟩ | ⟨_, gp, rfl, ho, hb⟩)
  · exact absurd (isSealed_sealed l) hs
  rw [sealed_front, SL.out.1, Nat.add_sub_cancel] at ho
  rw [SL.out.1, Nat.add_sub_cancel]
  have F9 : Aside (Below w.heap.size w w9 ∧ Own w1.heap.size w9 (.slice (some ⟨gx, 0, none⟩) (l.length + 3) cx) (l ++ marks) ∧ Own w2.heap.size w9 (.slice (some ⟨gy, 0, none⟩) (m.length + 3) cy) (m ++ marks) ∧ Own gs w9 (.slice (some ⟨gs, 0, none⟩) (l.length + 4) (l.length + 4)) (sealed l) ∧ Own w6.heap.size w9 (.slice (some ⟨gz, 0, none⟩) (l.length + 4 + 3) cz) (sealed l ++ marks) ∧ Own w7.heap.size w9 (.slice (some ⟨go, 0, none⟩) l.length l.length) (l) ∧ Own w8.heap.size w9 (.slice (some ⟨gp, 0, none⟩) l.length l.length) (l)) := ⟨F8.out.1.trans (hb.mono F8.out.1.size), F8.out.2.1.below hb, F8.out.2.2.1.below hb, F8.out.2.2.2.1.below hb, F8.out.2.2.2.2.1.below hb, F8.out.2.2.2.2.2.below hb, ho⟩
  have D2 : Aside (gp ≠ go) := by
    have h1 := own_lt F9.out.2.2.2.2.2.2
    have h2 := D1.out.2.2.2.2.2
    unfold Aside; omega
  clear ho hb F8
  go_wp2_with fail
  refine (same_yes _ _ l w9 F9.out.2.2.2.2.2.1.bytes (V.out.below F9.out.1)).mono ?_
  rintro e w9 ⟨rfl, rfl⟩
  go_wp2_with fail
  refine (same_yes _ _ l w9 F9.out.2.2.2.2.2.2.bytes (V.out.below F9.out.1)).mono ?_
  rintro e w9 ⟨rfl, rfl⟩
  go_wp2_with fail
  refine (marked_any gz (l.length + 4) cz _ (sealed l) w9 SL.out.1 F9.out.2.2.2.2.1.bytes F9.out.2.2.2.1.bytes).mono ?_
  rintro e w9 ⟨rfl, rfl⟩
  go_wp2_with fail
  go_loopg [14] l.length (fun g si wr => ∃ (i : Nat), i ≤ l.length ∧ g = l.length - i ∧ si = .int .i64 i ∧ Own w7.heap.size wr (.slice (some ⟨go, 0, none⟩) l.length l.length) (incs l i) ∧ w9.grownBy wr (some go))
  case atStart => exact ⟨0, Nat.zero_le _, rfl, rfl, by rw [incs_zero]; exact F9.out.2.2.2.2.2.1, World.grownBy.refl _ _⟩
  case round =>
    obtain ⟨i, hi', hg, rfl, ho, hgr⟩ := hrel
    have R : Aside (gk = l.length - i ∧ Own w7.heap.size wr (.slice (some ⟨go, 0, none⟩) l.length l.length) (incs l i) ∧ w9.grownBy wr (some go)) := ⟨hg, ho, hgr⟩
    clear hg ho hgr
    by_cases hlt : i < l.length
    · have hc := cell_in R.out.2.1 i (by rw [incs_length]; exact hlt)
      rw [incs_at] at hc
      have hf := free_in R.out.2.1 i
      obtain ⟨y, hy⟩ : ∃ y, y = l.getD i 0#8 := ⟨_, rfl⟩
      rw [← hy] at hc
      have Y : Aside (y = l.getD i 0#8) := hy
      clear hy
      go_wp2_with fail
      go_roundg (l.length - (i + 1))
      case measure => have := R.out.1; omega
      case rel =>
        refine ⟨i + 1, by omega, rfl, by go_num, ?_, grown_trans R.out.2.2 (put_grown _ _ _ _)⟩
        rw [u8_inc, ← incs_set l i hlt, ← Y.out]
        exact own_put R.out.2.1 i _
    · obtain ⟨w10, hw10⟩ : ∃ w10, w10 = wr := ⟨_, rfl⟩
      subst hw10
      obtain rfl : i = l.length := by omega
      have F10 : Aside (Below w.heap.size w w10 ∧ Own w1.heap.size w10 (.slice (some ⟨gx, 0, none⟩) (l.length + 3) cx) (l ++ marks) ∧ Own w2.heap.size w10 (.slice (some ⟨gy, 0, none⟩) (m.length + 3) cy) (m ++ marks) ∧ Own gs w10 (.slice (some ⟨gs, 0, none⟩) (l.length + 4) (l.length + 4)) (sealed l) ∧ Own w6.heap.size w10 (.slice (some ⟨gz, 0, none⟩) (l.length + 4 + 3) cz) (sealed l ++ marks) ∧ Own w7.heap.size w10 (.slice (some ⟨go, 0, none⟩) l.length l.length) (incs l l.length) ∧ Own w8.heap.size w10 (.slice (some ⟨gp, 0, none⟩) l.length l.length) (l)) := ⟨F9.out.1.grown R.out.2.2 F9.out.1.size (fun k hk => by have h := D1.out.2.2.2.2.1; simp only [Option.some.injEq] at hk; omega), own_kept F9.out.2.1 R.out.2.2 D1.out.1, own_kept F9.out.2.2.1 R.out.2.2 D1.out.2.1, own_kept F9.out.2.2.2.1 R.out.2.2 D1.out.2.2.1, own_kept F9.out.2.2.2.2.1 R.out.2.2 D1.out.2.2.2.1, R.out.2.1, own_kept F9.out.2.2.2.2.2.2 R.out.2.2 D2.out⟩
      clear R F9
      have N1 : Hid (∀ j v, (cells8 (incs l l.length))[j]? = some v → (w10.alloc (.cells #[.int .u8 9, .int .u8 9, .int .u8 9, .int .u8 9, .int .u8 9] 5)).cell? ((⟨go, 0, none⟩ : Addr).add j) = some v) := by
        intro j v hv
        have hj : j < (incs l l.length).length := by
          rcases Nat.lt_or_ge j (incs l l.length).length with q | q
          · exact q
          · rw [List.getElem?_eq_none (by rw [cells8_length]; exact q)] at hv; simp at hv
        rw [cells8_at hj] at hv
        have hc := cell_in F10.out.2.2.2.2.2.1 j hj
        rw [add_plain, Nat.zero_add, (Below.alloc (Below.refl w10.heap.size w10) (Nat.le_refl _) _).cell (p := ⟨go, j, none⟩) (own_lt F10.out.2.2.2.2.2.1).2, hc]; exact hv
      go_wp2_with (at_builtin; refine wpList_append_grows _ rfl _ _ 22 rfl 5 i0 (.int .u8 0) 1 1 Try.underlying22 hi hz0 hz1 hz2 rfl (by decide) (some ⟨go, 0, none⟩) l.length l.length (cells8 (incs l l.length)) rfl (fun h => by simp at h) (by rw [cells8_length, incs_length, Nat.mul_one]) (fun b hb => by simp only [Option.some.injEq] at hb; subst hb; exact N1.out) ⟨w10.heap.size, 0, none⟩ 5 5 [.int .u8 9, .int .u8 9, .int .u8 9, .int .u8 9, .int .u8 9] rfl rfl ?c1 ?c2 ?c3 ?c4 ?c5 ?_)
      case c1 => exact fun j v hv => new_cells w10 #[.int .u8 9, .int .u8 9, .int .u8 9, .int .u8 9, .int .u8 9] j v hv
      case c2 => intro v hv; simp only [List.mem_cons, List.not_mem_nil, or_false] at hv; rcases hv with rfl | rfl | rfl | rfl | rfl <;> rfl
      case c3 => omega
      case c4 => unfold maxLen; omega
      case c5 => omega
      intro vg w11 ho hg
      obtain ⟨ag, cg, rfl⟩ : ∃ ag cg, vg = .slice ag (l.length + 5) cg := by
        obtain ⟨_, ⟨_, h⟩ | ⟨g, cap', cur, hv, _⟩⟩ := ho
        · omega
        · exact ⟨_, _, hv⟩
      have hb11 : Below w10.heap.size w10 w11 := ((Below.refl _ _).alloc (Nat.le_refl _) _).grown hg (by simp) (fun k hk => by simp at hk)
      clear ho hg N1
      have F11 : Aside (Below w.heap.size w w11 ∧ Own w1.heap.size w11 (.slice (some ⟨gx, 0, none⟩) (l.length + 3) cx) (l ++ marks) ∧ Own w2.heap.size w11 (.slice (some ⟨gy, 0, none⟩) (m.length + 3) cy) (m ++ marks) ∧ Own gs w11 (.slice (some ⟨gs, 0, none⟩) (l.length + 4) (l.length + 4)) (sealed l) ∧ Own w6.heap.size w11 (.slice (some ⟨gz, 0, none⟩) (l.length + 4 + 3) cz) (sealed l ++ marks) ∧ Own w7.heap.size w11 (.slice (some ⟨go, 0, none⟩) l.length l.length) (incs l l.length) ∧ Own w8.heap.size w11 (.slice (some ⟨gp, 0, none⟩) l.length l.length) (l)) := ⟨F10.out.1.trans (hb11.mono F10.out.1.size), F10.out.2.1.below hb11, F10.out.2.2.1.below hb11, F10.out.2.2.2.1.below hb11, F10.out.2.2.2.2.1.below hb11, F10.out.2.2.2.2.2.1.below hb11, F10.out.2.2.2.2.2.2.below hb11⟩
      clear hb11 F10
      go_wp2_with fail
      refine (seal_at _ l w11 (head_in F11.out.2.1 rfl) (by omega)).mono ?_
      rintro e w12 ⟨rfl, ho, hb⟩
      obtain ⟨gt, hgt⟩ : ∃ gt, gt = w11.heap.size := ⟨_, rfl⟩
      rw [← hgt] at ho ⊢
      have D3 : Aside (gx ≠ gt ∧ gy ≠ gt ∧ gs ≠ gt ∧ gz ≠ gt ∧ go ≠ gt ∧ gp ≠ gt ∧ w.heap.size ≤ gt) := by
        have h1 := own_lt F11.out.2.1
        have h2 := own_lt F11.out.2.2.1
        have h3 := own_lt F11.out.2.2.2.1
        have h4 := own_lt F11.out.2.2.2.2.1
        have h5 := own_lt F11.out.2.2.2.2.2.1
        have h6 := own_lt F11.out.2.2.2.2.2.2
        have h7 := F11.out.1.size
        exact ⟨by omega, by omega, by omega, by omega, by omega, by omega, by omega⟩
      have F12 : Aside (Below w.heap.size w w12 ∧ Own w1.heap.size w12 (.slice (some ⟨gx, 0, none⟩) (l.length + 3) cx) (l ++ marks) ∧ Own w2.heap.size w12 (.slice (some ⟨gy, 0, none⟩) (m.length + 3) cy) (m ++ marks) ∧ Own gs w12 (.slice (some ⟨gs, 0, none⟩) (l.length + 4) (l.length + 4)) (sealed l) ∧ Own w6.heap.size w12 (.slice (some ⟨gz, 0, none⟩) (l.length + 4 + 3) cz) (sealed l ++ marks) ∧ Own w7.heap.size w12 (.slice (some ⟨go, 0, none⟩) l.length l.length) (incs l l.length) ∧ Own w8.heap.size w12 (.slice (some ⟨gp, 0, none⟩) l.length l.length) (l) ∧ Own gt w12 (.slice (some ⟨gt, 0, none⟩) (l.length + 4) (l.length + 4)) (sealed l)) := ⟨F11.out.1.trans ((hgt ▸ hb : Below w11.heap.size w11 w12).mono F11.out.1.size), F11.out.2.1.below (hgt ▸ hb : Below w11.heap.size w11 w12), F11.out.2.2.1.below (hgt ▸ hb : Below w11.heap.size w11 w12), F11.out.2.2.2.1.below (hgt ▸ hb : Below w11.heap.size w11 w12), F11.out.2.2.2.2.1.below (hgt ▸ hb : Below w11.heap.size w11 w12), F11.out.2.2.2.2.2.1.below (hgt ▸ hb : Below w11.heap.size w11 w12), F11.out.2.2.2.2.2.2.below (hgt ▸ hb : Below w11.heap.size w11 w12), ho⟩
      clear ho hb hgt F11
      go_wp2_with fail
      go_loopg [17] (l.length + 4) (fun g si wr => ∃ (i : Nat), i ≤ l.length + 4 ∧ g = l.length + 4 - i ∧ si = .int .i64 i ∧ Own gt wr (.slice (some ⟨gt, 0, none⟩) (l.length + 4) (l.length + 4)) (incs (sealed l) i) ∧ w12.grownBy wr (some gt))
      case atStart => exact ⟨0, Nat.zero_le _, rfl, rfl, by rw [incs_zero]; exact F12.out.2.2.2.2.2.2.2, World.grownBy.refl _ _⟩
      case round =>
        obtain ⟨i, hi', hg, rfl, ho, hgr⟩ := hrel
        have R : Aside (gk = l.length + 4 - i ∧ Own gt wr (.slice (some ⟨gt, 0, none⟩) (l.length + 4) (l.length + 4)) (incs (sealed l) i) ∧ w12.grownBy wr (some gt)) := ⟨hg, ho, hgr⟩
        clear hg ho hgr
        by_cases hlt : i < l.length + 4
        · have hc := cell_in R.out.2.1 i (by rw [incs_length, SL.out.1]; exact hlt)
          rw [incs_at] at hc
          have hf := free_in R.out.2.1 i
          obtain ⟨y, hy⟩ : ∃ y, y = (sealed l).getD i 0#8 := ⟨_, rfl⟩
          rw [← hy] at hc
          have Y : Aside (y = (sealed l).getD i 0#8) := hy
          have i1 : (i : Int) < (l.length : Int) + 4 := by omega
          clear hy
          go_wp2_with fail
          go_roundg (l.length + 4 - (i + 1))
          case measure => have := R.out.1; omega
          case rel =>
            refine ⟨i + 1, by omega, rfl, by go_num, ?_, grown_trans R.out.2.2 (put_grown _ _ _ _)⟩
            rw [u8_inc, ← incs_set (sealed l) i (by rw [SL.out.1]; exact hlt), ← Y.out]
            exact own_put R.out.2.1 i _
        · obtain ⟨w13, hw13⟩ : ∃ w13, w13 = wr := ⟨_, rfl⟩
          subst hw13
          have RO : Own gt w13 (.slice (some ⟨gt, 0, none⟩) (l.length + 4) (l.length + 4)) (incs (sealed l) (sealed l).length) := by
            have h := R.out.2.1
            have e : i = (sealed l).length := by rw [SL.out.1]; omega
            rw [e] at h; exact h
          have F13 : Aside (Below w.heap.size w w13 ∧ Own w1.heap.size w13 (.slice (some ⟨gx, 0, none⟩) (l.length + 3) cx) (l ++ marks) ∧ Own w2.heap.size w13 (.slice (some ⟨gy, 0, none⟩) (m.length + 3) cy) (m ++ marks) ∧ Own gs w13 (.slice (some ⟨gs, 0, none⟩) (l.length + 4) (l.length + 4)) (sealed l) ∧ Own w6.heap.size w13 (.slice (some ⟨gz, 0, none⟩) (l.length + 4 + 3) cz) (sealed l ++ marks) ∧ Own w7.heap.size w13 (.slice (some ⟨go, 0, none⟩) l.length l.length) (incs l l.length) ∧ Own w8.heap.size w13 (.slice (some ⟨gp, 0, none⟩) l.length l.length) (l) ∧ Own gt w13 (.slice (some ⟨gt, 0, none⟩) (l.length + 4) (l.length + 4)) (incs (sealed l) (sealed l).length)) := ⟨F12.out.1.grown R.out.2.2 F12.out.1.size (fun k hk => by have h := D3.out.2.2.2.2.2.2; simp only [Option.some.injEq] at hk; omega), own_kept F12.out.2.1 R.out.2.2 D3.out.1, own_kept F12.out.2.2.1 R.out.2.2 D3.out.2.1, own_kept F12.out.2.2.2.1 R.out.2.2 D3.out.2.2.1, own_kept F12.out.2.2.2.2.1 R.out.2.2 D3.out.2.2.2.1, own_kept F12.out.2.2.2.2.2.1 R.out.2.2 D3.out.2.2.2.2.1, own_kept F12.out.2.2.2.2.2.2.1 R.out.2.2 D3.out.2.2.2.2.2.1, RO⟩
          clear R RO F12
          have N2 : Hid (∀ j v, (cells8 (incs (sealed l) (sealed l).length))[j]? = some v → (w13.alloc (.cells #[.int .u8 8] 5)).cell? ((⟨gt, 0, none⟩ : Addr).add j) = some v) := by
            intro j v hv
            have hj : j < (incs (sealed l) (sealed l).length).length := by
              rcases Nat.lt_or_ge j (incs (sealed l) (sealed l).length).length with q | q
              · exact q
              · rw [List.getElem?_eq_none (by rw [cells8_length]; exact q)] at hv; simp at hv
            rw [cells8_at hj] at hv
            have hc := cell_in F13.out.2.2.2.2.2.2.2 j hj
            rw [add_plain, Nat.zero_add, (Below.alloc (Below.refl w13.heap.size w13) (Nat.le_refl _) _).cell (p := ⟨gt, j, none⟩) (own_lt F13.out.2.2.2.2.2.2.2).2, hc]; exact hv
          go_wp2_with (at_builtin; refine wpList_append_grows _ rfl _ _ 22 rfl 5 i0 (.int .u8 0) 1 1 Try.underlying22 hi hz0 hz1 hz2 rfl (by decide) (some ⟨gt, 0, none⟩) (l.length + 4) (l.length + 4) (cells8 (incs (sealed l) (sealed l).length)) rfl (fun h => by simp at h) (by rw [cells8_length, incs_length, SL.out.1, Nat.mul_one]) (fun b hb => by simp only [Option.some.injEq] at hb; subst hb; exact N2.out) ⟨w13.heap.size, 0, none⟩ 1 1 [.int .u8 8] rfl rfl ?d1 ?d2 ?d3 ?d4 ?d5 ?_)
          case d1 => exact fun j v hv => new_cells w13 #[.int .u8 8] j v hv
          case d2 => intro v hv; simp only [List.mem_cons, List.not_mem_nil, or_false] at hv; rw [hv]; rfl
          case d3 => omega
          case d4 => unfold maxLen; omega
          case d5 => omega
          intro vh w14 ho hg
          obtain ⟨ah, ch, rfl⟩ : ∃ ah ch, vh = .slice ah (l.length + 5) ch := by
            obtain ⟨_, ⟨_, h⟩ | ⟨g, cap', cur, hv, _⟩⟩ := ho
            · omega
            · exact ⟨_, _, hv⟩
          have hb14 : Below w13.heap.size w13 w14 := ((Below.refl _ _).alloc (Nat.le_refl _) _).grown hg (by simp) (fun k hk => by simp at hk)
          clear ho hg N2
          have F14 : Aside (Below w.heap.size w w14 ∧ Own w1.heap.size w14 (.slice (some ⟨gx, 0, none⟩) (l.length + 3) cx) (l ++ marks) ∧ Own w2.heap.size w14 (.slice (some ⟨gy, 0, none⟩) (m.length + 3) cy) (m ++ marks) ∧ Own gs w14 (.slice (some ⟨gs, 0, none⟩) (l.length + 4) (l.length + 4)) (sealed l) ∧ Own w6.heap.size w14 (.slice (some ⟨gz, 0, none⟩) (l.length + 4 + 3) cz) (sealed l ++ marks) ∧ Own w7.heap.size w14 (.slice (some ⟨go, 0, none⟩) l.length l.length) (incs l l.length) ∧ Own w8.heap.size w14 (.slice (some ⟨gp, 0, none⟩) l.length l.length) (l) ∧ Own gt w14 (.slice (some ⟨gt, 0, none⟩) (l.length + 4) (l.length + 4)) (incs (sealed l) (sealed l).length)) := ⟨F13.out.1.trans (hb14.mono F13.out.1.size), F13.out.2.1.below hb14, F13.out.2.2.1.below hb14, F13.out.2.2.2.1.below hb14, F13.out.2.2.2.2.1.below hb14, F13.out.2.2.2.2.2.1.below hb14, F13.out.2.2.2.2.2.2.1.below hb14, F13.out.2.2.2.2.2.2.2.below hb14⟩
          clear hb14 F13
          go_wp2_with fail
          refine (seal_any _ m w14 (head_in F14.out.2.2.1 rfl) (by omega)).mono ?_
          rintro e w15 ⟨vv, rfl, ho, hb⟩
          have F15 : Aside (Below w.heap.size w w15 ∧ Own w1.heap.size w15 (.slice (some ⟨gx, 0, none⟩) (l.length + 3) cx) (l ++ marks) ∧ Own w2.heap.size w15 (.slice (some ⟨gy, 0, none⟩) (m.length + 3) cy) (m ++ marks) ∧ Own gs w15 (.slice (some ⟨gs, 0, none⟩) (l.length + 4) (l.length + 4)) (sealed l) ∧ Own w6.heap.size w15 (.slice (some ⟨gz, 0, none⟩) (l.length + 4 + 3) cz) (sealed l ++ marks) ∧ Own w7.heap.size w15 (.slice (some ⟨go, 0, none⟩) l.length l.length) (incs l l.length) ∧ Own w8.heap.size w15 (.slice (some ⟨gp, 0, none⟩) l.length l.length) (l) ∧ Own gt w15 (.slice (some ⟨gt, 0, none⟩) (l.length + 4) (l.length + 4)) (incs (sealed l) (sealed l).length) ∧ Own w14.heap.size w15 (vv) (sealed m)) := ⟨F14.out.1.trans (hb.mono F14.out.1.size), F14.out.2.1.below hb, F14.out.2.2.1.below hb, F14.out.2.2.2.1.below hb, F14.out.2.2.2.2.1.below hb, F14.out.2.2.2.2.2.1.below hb, F14.out.2.2.2.2.2.2.1.below hb, F14.out.2.2.2.2.2.2.2.below hb, ho⟩
          clear ho hb F14
          go_wp2_with fail
          refine (open_any _ (sealed m) w15 F15.out.2.2.2.2.2.2.2.2.bytes (by rw [SL.out.2]; omega) (by rw [SL.out.2]; omega)).mono ?_
          rintro e w16 (⟨hs, _⟩ | ⟨_, vw, rfl, ho, hb⟩)
          · exact absurd (isSealed_sealed m) hs
          rw [sealed_front] at ho
          have F16 : Aside (Below w.heap.size w w16 ∧ Own w1.heap.size w16 (.slice (some ⟨gx, 0, none⟩) (l.length + 3) cx) (l ++ marks) ∧ Own w2.heap.size w16 (.slice (some ⟨gy, 0, none⟩) (m.length + 3) cy) (m ++ marks) ∧ Own gs w16 (.slice (some ⟨gs, 0, none⟩) (l.length + 4) (l.length + 4)) (sealed l) ∧ Own w6.heap.size w16 (.slice (some ⟨gz, 0, none⟩) (l.length + 4 + 3) cz) (sealed l ++ marks) ∧ Own w7.heap.size w16 (.slice (some ⟨go, 0, none⟩) l.length l.length) (incs l l.length) ∧ Own w8.heap.size w16 (.slice (some ⟨gp, 0, none⟩) l.length l.length) (l) ∧ Own gt w16 (.slice (some ⟨gt, 0, none⟩) (l.length + 4) (l.length + 4)) (incs (sealed l) (sealed l).length) ∧ Own w14.heap.size w16 (vv) (sealed m) ∧ Own w15.heap.size w16 (vw) (m)) := ⟨F15.out.1.trans (hb.mono F15.out.1.size), F15.out.2.1.below hb, F15.out.2.2.1.below hb, F15.out.2.2.2.1.below hb, F15.out.2.2.2.2.1.below hb, F15.out.2.2.2.2.2.1.below hb, F15.out.2.2.2.2.2.2.1.below hb, F15.out.2.2.2.2.2.2.2.1.below hb, F15.out.2.2.2.2.2.2.2.2.below hb, ho⟩
          clear ho hb F15
          go_wp2_with fail
          go_loopg [22] l.length (fun g si wr => ∃ (i : Nat), i ≤ l.length ∧ g = l.length - i ∧ si = .int .i64 i ∧ Below w16.heap.size w16 wr)
          case atStart => exact ⟨0, Nat.zero_le _, rfl, rfl, Below.refl _ _⟩
          case round =>
            obtain ⟨i, hi', hg, rfl, hbr⟩ := hrel
            have R : Aside (gk = l.length - i ∧ Below w16.heap.size w16 wr) := ⟨hg, hbr⟩
            clear hg hbr
            by_cases hlt : i < l.length
            · obtain ⟨y, hy⟩ : ∃ y, y = l.getD i 0#8 := ⟨_, rfl⟩
              obtain ⟨z, hz⟩ : ∃ z, z = y + 1#8 := ⟨_, rfl⟩
              have ho1 : wr.cell? ⟨go, i, none⟩ = some (.int .u8 (c8 z)) := by
                rw [cell_in (F16.out.2.2.2.2.2.1.below R.out.2) i (by rw [incs_length]; exact hlt), incs_all l i hlt, ← hy, ← hz]
              have ht1 : wr.cell? ⟨gt, i, none⟩ = some (.int .u8 (c8 z)) := by
                rw [cell_in (F16.out.2.2.2.2.2.2.2.1.below R.out.2) i (by rw [incs_length, SL.out.1]; omega), incs_all (sealed l) i (by rw [SL.out.1]; omega)]
                have e : (sealed l).getD i 0#8 = l.getD i 0#8 := by simp only [sealed, List.getD, List.getElem?_append_left hlt]
                rw [e, ← hy, ← hz]
              obtain ⟨b1, off1, rfl, hb1⟩ : ∃ b1 off1, a = some ⟨b1, off1, none⟩ ∧ wr.cell? ⟨b1, off1 + i, none⟩ = some (.int .u8 (c8 y)) := by
                obtain ⟨aa, cc, e, _, _, _, hcl⟩ := (V.out.below F16.out.1).below R.out.2
                simp only [Value.slice.injEq, true_and] at e
                obtain ⟨rfl, rfl⟩ := e
                rw [hy]; exact hcl i hlt
              have hzz : (c8 y + 1) % (256 : Int) = c8 z := by rw [hz]; exact u8_inc y
              have i1 : (i : Int) < (l.length : Int) := by omega
              have i2 : (i : Int) < (l.length : Int) + 4 := by omega
              have i3 : (0 : Int) ≤ (i : Int) := by omega
              clear hy hz
              go_wp2_with fail
              go_quiet (fail)
              go_wp2_with fail
              go_roundg (l.length - (i + 1))
              case measure => have := R.out.1; omega
              case rel => exact ⟨i + 1, by omega, rfl, by go_num, R.out.2.trans ⟨rfl, rfl, rfl, Nat.le_refl _, fun _ _ => rfl⟩⟩
            · obtain ⟨w17, hw17⟩ : ∃ w17, w17 = wr := ⟨_, rfl⟩
              subst hw17
              have hb := R.out.2
              have F17 : Aside (Below w.heap.size w w17 ∧ Own w1.heap.size w17 (.slice (some ⟨gx, 0, none⟩) (l.length + 3) cx) (l ++ marks) ∧ Own w2.heap.size w17 (.slice (some ⟨gy, 0, none⟩) (m.length + 3) cy) (m ++ marks) ∧ Own gs w17 (.slice (some ⟨gs, 0, none⟩) (l.length + 4) (l.length + 4)) (sealed l) ∧ Own w6.heap.size w17 (.slice (some ⟨gz, 0, none⟩) (l.length + 4 + 3) cz) (sealed l ++ marks) ∧ Own w7.heap.size w17 (.slice (some ⟨go, 0, none⟩) l.length l.length) (incs l l.length) ∧ Own w8.heap.size w17 (.slice (some ⟨gp, 0, none⟩) l.length l.length) (l) ∧ Own gt w17 (.slice (some ⟨gt, 0, none⟩) (l.length + 4) (l.length + 4)) (incs (sealed l) (sealed l).length) ∧ Own w14.heap.size w17 (vv) (sealed m) ∧ Own w15.heap.size w17 (vw) (m)) := ⟨F16.out.1.trans (hb.mono F16.out.1.size), F16.out.2.1.below hb, F16.out.2.2.1.below hb, F16.out.2.2.2.1.below hb, F16.out.2.2.2.2.1.below hb, F16.out.2.2.2.2.2.1.below hb, F16.out.2.2.2.2.2.2.1.below hb, F16.out.2.2.2.2.2.2.2.1.below hb, F16.out.2.2.2.2.2.2.2.2.1.below hb, F16.out.2.2.2.2.2.2.2.2.2.below hb⟩
              clear hb R F16
              go_wp2_with fail
              refine (same_yes _ _ m w17 F17.out.2.2.2.2.2.2.2.2.2.bytes (V'.out.below F17.out.1)).mono ?_
              rintro e w17 ⟨rfl, rfl⟩
              go_wp2_with fail
              refine (marked_any gz (l.length + 4) cz _ (sealed l) w17 SL.out.1 F17.out.2.2.2.2.1.bytes F17.out.2.2.2.1.bytes).mono ?_
              rintro e w17 ⟨rfl, rfl⟩
              go_wp2_with fail
              refine (same_yes _ _ l w17 F17.out.2.2.2.2.2.2.1.bytes (V.out.below F17.out.1)).mono ?_
              rintro e w17 ⟨rfl, rfl⟩
              go_wp2_with fail
              refine (marked_any gx l.length cx _ l w17 rfl F17.out.2.1.bytes (V.out.below F17.out.1)).mono ?_
              rintro e w17 ⟨rfl, rfl⟩
              go_wp2_with fail
              refine (seal_any _ l w17 (head_in F17.out.2.1 rfl) (by omega)).mono ?_
              rintro e w18 ⟨vq, rfl, ho, hb⟩
              have F18 : Aside (Below w.heap.size w w18 ∧ Own w1.heap.size w18 (.slice (some ⟨gx, 0, none⟩) (l.length + 3) cx) (l ++ marks) ∧ Own w2.heap.size w18 (.slice (some ⟨gy, 0, none⟩) (m.length + 3) cy) (m ++ marks) ∧ Own gs w18 (.slice (some ⟨gs, 0, none⟩) (l.length + 4) (l.length + 4)) (sealed l) ∧ Own w6.heap.size w18 (.slice (some ⟨gz, 0, none⟩) (l.length + 4 + 3) cz) (sealed l ++ marks) ∧ Own w7.heap.size w18 (.slice (some ⟨go, 0, none⟩) l.length l.length) (incs l l.length) ∧ Own w8.heap.size w18 (.slice (some ⟨gp, 0, none⟩) l.length l.length) (l) ∧ Own gt w18 (.slice (some ⟨gt, 0, none⟩) (l.length + 4) (l.length + 4)) (incs (sealed l) (sealed l).length) ∧ Own w14.heap.size w18 (vv) (sealed m) ∧ Own w15.heap.size w18 (vw) (m) ∧ Own w17.heap.size w18 (vq) (sealed l)) := ⟨F17.out.1.trans (hb.mono F17.out.1.size), F17.out.2.1.below hb, F17.out.2.2.1.below hb, F17.out.2.2.2.1.below hb, F17.out.2.2.2.2.1.below hb, F17.out.2.2.2.2.2.1.below hb, F17.out.2.2.2.2.2.2.1.below hb, F17.out.2.2.2.2.2.2.2.1.below hb, F17.out.2.2.2.2.2.2.2.2.1.below hb, F17.out.2.2.2.2.2.2.2.2.2.below hb, ho⟩
              clear ho hb F17
              go_wp2_with fail
              refine (same_yes _ _ (sealed l) w18 F18.out.2.2.2.2.2.2.2.2.2.2.bytes F18.out.2.2.2.1.bytes).mono ?_
              rintro e w18 ⟨rfl, rfl⟩
              have B : Aside (Below w.heap.size w w18) := F18.out.1
              clear F18 V V' SL D1 D2 D3
              go_wp2_with fail
              go_ret
              exact ⟨rfl, B.out⟩
end Go.Proofs.Ytfmgegkeidhdfab
