/-
  THE DOCUMENTS READER: Byte, Bool, Count, Text.
-/
import Derived.Test.YtmdjicakjljmlaaRefR2
namespace Go.Proofs.Ytmdjicakjljmlaa
open Go.RowKit

theorem drop_cons' {b : List UInt8} {k : Nat} (h : k < b.length) : b.drop k = b.getD k 0 :: b.drop (k + 1) := by
  rw [List.drop_eq_getElem_cons h]; simp [List.getD, h]
theorem Bytes.at {w : World} {a : Option Addr} {n cap : Nat} {l : List UInt8} (H : Bytes w (.slice a n cap) l) (k : Nat) (hk : k < l.length) : ∃ b off, a = some ⟨b, off, none⟩ ∧ w.cell? ⟨b, off + k, none⟩ = some (.int .u8 (c8 (l.getD k 0))) := by
  obtain ⟨a', cap', e, _, _, _, hc⟩ := H
  simp only [Value.slice.injEq] at e
  obtain ⟨rfl, rfl, rfl⟩ := e
  exact hc k hk
set_option maxHeartbeats 2000000 in
theorem yByte_any (g : Nat) (v0 : Value) (b : List UInt8) (s : RS) (w : World) (H : YAt w g v0 b s) :
    Calls Try.prog 22 #[.pointer (some ⟨g, 0, none⟩)] w fun e w' => e = .returned (.int .u8 (c8 s.byte.1)) ∧ ReadY g v0 b s.byte.2 w w' := by
  have V : Aside (YAt w g v0 b s) := H
  obtain ⟨a, cap, k, h1, h2, hb, hk, hl, c0, c1, c2, f1, f2⟩ := H.cells
  have A : Aside (Bytes w (.slice a b.length cap) b) := hb
  clear H hb
  unfold maxLen at h2
  obtain ⟨l, er⟩ := s
  simp only at hl c2
  subst hl
  go_enter Try.func22, Try.ntmps22
  by_cases he : er = 0
  · subst he
    by_cases hz : k < b.length
    · obtain ⟨blk, off, rfl, hc⟩ := A.out.at k hz
      have hne : blk ≠ g := V.out.no8 _ _ _ hc
      have hne' : g ≠ blk := fun h => hne h.symm
      obtain ⟨c, hcc⟩ : ∃ c, c = b.getD k 0 := ⟨_, rfl⟩
      rw [← hcc] at hc
      have U : Aside (RS.byte ⟨b.drop k, 0⟩ = (c, ⟨b.drop (k + 1), 0⟩)) := by rw [drop_cons' hz, ← hcc]; rfl
      have ne1 : ((k : Int) == (b.length : Int)) = false := by rw [beq_eq_false_iff_ne]; omega
      clear hcc
      go_wp2_with fail
      go_quiet (fail)
      go_wp2_with fail
      go_quiet (fail)
      go_wp2_with fail
      go_ret
      rw [U.out]
      exact ⟨rfl, (((ReadY.refl V.out).drewN _).at (k + 1) (by omega) (by omega)).drewN _⟩
    · obtain rfl : k = b.length := by omega
      have U : Aside (RS.byte ⟨b.drop b.length, 0⟩ = (0, ⟨b.drop b.length, 20⟩)) := by rw [List.drop_eq_nil_of_le (Nat.le_refl _)]; rfl
      go_wp2_with fail
      go_quiet (fail)
      go_wp2_with fail
      go_ret
      rw [U.out]
      exact ⟨rfl, ((ReadY.refl V.out).drewN _).code 20 (by decide)⟩
  · have he' : ¬ (er : Int) = 0 := by omega
    have he2 : ((er : Int) == 0) = false := by rw [beq_eq_false_iff_ne]; omega
    have U : Aside (RS.byte ⟨b.drop k, er⟩ = (0, ⟨b.drop k, er⟩)) := by unfold RS.byte; rw [if_neg he]; rfl
    clear he
    go_wp2_with fail
    go_quiet (fail)
    go_wp2_with fail
    go_ret
    rw [U.out]
    exact ⟨rfl, (ReadY.refl V.out).drewN _⟩
set_option maxHeartbeats 2000000 in
theorem yBool_any (g : Nat) (v0 : Value) (b : List UInt8) (s : RS) (w : World) (H : YAt w g v0 b s) :
    Calls Try.prog 26 #[.pointer (some ⟨g, 0, none⟩)] w fun e w' => e = .returned (.bool s.bool.1) ∧ ReadY g v0 b s.bool.2 w w' := by
  have V : Aside (YAt w g v0 b s) := H
  obtain ⟨a, cap, k, h1, h2, hb, hk, hl, c0, c1, c2, f1, f2⟩ := H.cells
  have K : Aside (k ≤ b.length) := hk
  clear H hb c0 c2 f1 f2 h1 h2
  obtain ⟨l, er⟩ := s
  simp only at hl
  have HL : Aside (l = b.drop k) := hl
  clear hl
  go_enter Try.func26, Try.ntmps26
  go_wp2_with fail
  refine (yByte_any g v0 b _ w V.out).mono ?_
  rintro e w1 ⟨rfl, hr⟩
  obtain ⟨_, _, k1, _, _, _, _, _, _, d1, d2, g1, g2⟩ := hr.1.cells
  by_cases he : er = 0
  · subst he
    cases l with
    | nil =>
      have R : Aside (ReadY g v0 b ⟨[], 20⟩ w w1) := hr
      change w1.cell? ⟨g, 2, none⟩ = some (.int .i64 20) at d2
      have eb : (RS.byte ⟨[], 0⟩).1 = 0 := rfl
      rw [eb]
      clear hr eb
      go_wp2_with fail
      go_ret
      exact ⟨rfl, R.out⟩
    | cons c t =>
      have R : Aside (ReadY g v0 b ⟨t, 0⟩ w w1) := hr
      change w1.cell? ⟨g, 2, none⟩ = some (.int .i64 0) at d2
      have eb : (RS.byte ⟨c :: t, 0⟩).1 = c := rfl
      rw [eb]
      clear hr eb
      have b0 := c8_lo c
      have b1 := c8_hi c
      by_cases hbig : 1 < c8 c
      · have U : Aside (RS.bool ⟨c :: t, 0⟩ = (false, ⟨c :: t, 21⟩)) := by
          unfold RS.bool; simp only [if_true]; rw [if_pos (by unfold c8 at hbig; omega)]; rfl
        go_wp2_with fail
        go_ret
        rw [U.out, HL.out]
        exact ⟨rfl, (R.out.code 21 (by decide)).at k rfl K.out⟩
      · have U : Aside (RS.bool ⟨c :: t, 0⟩ = (c == 1, ⟨t, 0⟩)) := by
          unfold RS.bool; simp only [if_true]; rw [if_neg (by unfold c8 at hbig; omega)]; rfl
        have hbd : decide (1 < c8 c) = false := by rw [decide_eq_false_iff_not]; exact hbig
        go_wp2_with fail
        go_ret
        rw [U.out]
        refine ⟨?_, R.out⟩
        have e : (c8 c == 1) = (c == 1) := by
          rw [Bool.eq_iff_iff, beq_iff_eq, beq_iff_eq]
          constructor
          · intro h; exact c8_inj h
          · intro h; rw [h]; rfl
        exact congrArg (fun b => Ending.returned (.bool b)) e
  · have U2 : RS.byte ⟨l, er⟩ = (0, ⟨l, er⟩) := by unfold RS.byte; rw [if_neg he]
    rw [U2] at hr d2 ⊢
    have R : Aside (ReadY g v0 b ⟨l, er⟩ w w1) := hr
    have U : Aside (RS.bool ⟨l, er⟩ = (false, ⟨l, er⟩)) := by unfold RS.bool; rw [if_neg he]; rfl
    have he' : ¬ (er : Int) = 0 := by omega
    have he2 : ((er : Int) == 0) = false := by rw [beq_eq_false_iff_ne]; omega
    clear hr U2 he
    go_wp2_with fail
    go_ret
    rw [U.out]
    exact ⟨rfl, R.out⟩
/-- What Count and Text do with the number. -/
theorem uint_num (s : RS) (he : s.e = 0) : s.uint = ((num s.l 0).1, ⟨s.l.drop (num s.l 0).2.1, (num s.l 0).2.2⟩) := by unfold RS.uint; rw [if_pos he]
set_option maxHeartbeats 2000000 in
theorem yCount_any (g : Nat) (v0 : Value) (b : List UInt8) (most : Int) (s : RS) (w : World) (h1 : -9223372036854775808 ≤ most) (h2 : most < 9223372036854775808) (H : YAt w g v0 b s) :
    Calls Try.prog 24 #[.pointer (some ⟨g, 0, none⟩), .int .i64 most] w fun e w' => e = .returned (.int .i64 (s.count most).1) ∧ ReadY g v0 b (s.count most).2 w w' := by
  have V : Aside (YAt w g v0 b s) := H
  obtain ⟨a, cap, k, _, _, hb, hk, hl, c0, c1, c2, f1, f2⟩ := H.cells
  have K : Aside (k ≤ b.length ∧ s.l = b.drop k) := ⟨hk, hl⟩
  clear H hb c0 c2 f1 f2 hk hl
  have N := num_lt s.l
  go_enter Try.func24, Try.ntmps24
  go_wp2_with fail
  refine (yUint_any g v0 b s w V.out).mono ?_
  rintro e w1 ⟨rfl, hr⟩
  obtain ⟨_, _, k1, _, _, _, _, _, _, d1, d2, g1, g2⟩ := hr.1.cells
  by_cases he : s.e = 0
  · rw [uint_num s he] at hr d2 ⊢
    have D : Aside (s.count most = ((s.upTo (min most 4096)).1, ⟨s.l.drop (s.upTo (min most 4096)).2.1, (s.upTo (min most 4096)).2.2⟩)) := rfl
    have UP : Aside (s.upTo (min most 4096) = if (num s.l 0).2.2 = 0 then (if min most 4096 < 0 ∨ min most 4096 < (num s.l 0).1 then (0, 0, 23) else num s.l 0) else (0, 0, (num s.l 0).2.2)) := by unfold RS.upTo; rw [if_pos he]; rfl
    have NE : Aside (¬ (num s.l 0).2.2 = 0 → num s.l 0 = (0, 0, (num s.l 0).2.2)) := num_err s.l 0
    obtain ⟨r, hrr⟩ : ∃ r, r = num s.l 0 := ⟨_, rfl⟩
    rw [← hrr] at hr d2 N UP NE ⊢
    have R : Aside (ReadY g v0 b ⟨s.l.drop r.2.1, r.2.2⟩ w w1) := hr
    obtain ⟨n1, n2, n3, n4⟩ := N
    clear hr hrr he
    by_cases hz : r.2.2 = 0
    · rw [if_pos hz] at UP
      simp only [hz] at d2 R
      have Z : Aside (r.2.2 = 0) := hz
      clear hz NE
      by_cases hm : most < 0
      · rw [if_pos (by omega)] at UP
        go_wp2_with fail
        go_ret
        rw [D.out, UP.out]
        refine ⟨rfl, ?_⟩
        have h := (R.out.code 23 (by decide)).at (n := k) k rfl K.out.1
        rw [← K.out.2] at h
        exact h
      · have hm' : ¬ most < 0 := hm
        have hm2 : decide (most < 0) = false := by rw [decide_eq_false_iff_not]; exact hm
        obtain ⟨m, rfl⟩ : ∃ m : Nat, most = m := ⟨most.toNat, by omega⟩
        by_cases hb1 : m < r.1
        · rw [if_pos (by omega)] at UP
          have hb1' : ((m : Int) < (r.1 : Int)) := by omega
          go_wp2_with fail
          go_ret
          rw [D.out, UP.out]
          refine ⟨rfl, ?_⟩
          have h := (R.out.code 23 (by decide)).at (n := k) k rfl K.out.1
          rw [← K.out.2] at h
          exact h
        · have hb1' : decide ((m : Int) < (r.1 : Int)) = false := by rw [decide_eq_false_iff_not]; omega
          have hb2' : decide (m < r.1) = false := by rw [decide_eq_false_iff_not]; exact hb1
          by_cases hb3 : 4096 < r.1
          · rw [if_pos (by omega)] at UP
            have hb3' : ((4096 : Int) < (r.1 : Int)) := by omega
            go_wp2_with fail
            go_ret
            rw [D.out, UP.out]
            refine ⟨rfl, ?_⟩
            have h := (R.out.code 23 (by decide)).at (n := k) k rfl K.out.1
            rw [← K.out.2] at h
            exact h
          · rw [if_neg (by omega)] at UP
            have hb3' : decide ((4096 : Int) < (r.1 : Int)) = false := by rw [decide_eq_false_iff_not]; omega
            have hb4' : decide (4096 < r.1) = false := by rw [decide_eq_false_iff_not]; exact hb3
            go_wp2_with fail
            go_ret
            rw [D.out, UP.out, Z.out]
            exact ⟨rfl, R.out⟩
    · have NE' := NE.out hz
      rw [if_neg hz] at UP
      have e1 : r.1 = 0 := by rw [NE']
      have e2 : r.2.1 = 0 := by rw [NE']
      rw [e1]
      have R2 : Aside (ReadY g v0 b ⟨s.l, r.2.2⟩ w w1) := by have h := R.out; rw [e2, List.drop_zero] at h; exact h
      have hz' : ¬ (r.2.2 : Int) = 0 := by omega
      have hz2 : ((r.2.2 : Int) == 0) = false := by rw [beq_eq_false_iff_ne]; omega
      clear e1 e2 NE' NE hz
      go_wp2_with fail
      go_ret
      rw [D.out, UP.out]
      exact ⟨rfl, R2.out⟩
  · have U2 : s.uint = (0, s) := by unfold RS.uint; rw [if_neg he]
    rw [U2] at hr d2 ⊢
    have R : Aside (ReadY g v0 b s w w1) := hr
    have U : Aside (s.count most = (0, s)) := by
      have e : s.upTo (min most 4096) = (0, 0, s.e) := by unfold RS.upTo; rw [if_neg he]
      unfold RS.count; rw [e]; rfl
    have he' : ¬ (s.e : Int) = 0 := by omega
    have he2 : ((s.e : Int) == 0) = false := by rw [beq_eq_false_iff_ne]; omega
    clear hr U2 he
    go_wp2_with fail
    go_ret
    rw [U.out]
    exact ⟨rfl, R.out⟩
end Go.Proofs.Ytmdjicakjljmlaa
