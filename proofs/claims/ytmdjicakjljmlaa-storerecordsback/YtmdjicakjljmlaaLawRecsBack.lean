/-
  THE LAW StoreRecordsBack.
-/
import Derived.Test.YtmdjicakjljmlaaSrF
namespace Go.Proofs.Ytmdjicakjljmlaa
open Go.RowKit
theorem two_chs (w : World) : Chs (w.alloc (.cells #[.string ⟨#[97]⟩, .string ⟨#[49]⟩, .bool false, .string ⟨#[98]⟩, .string ⟨#[]⟩, .bool true] 27)) (.slice (some ⟨w.heap.size, 0, none⟩) 2 2) lst2 := by
  refine ⟨_, 2, rfl, by decide, by decide, fun h => by simp at h, fun k hk => ⟨w.heap.size, 0, rfl, fun j y hy => ?_⟩⟩
  have hk' : k < 2 := hk
  rw [World.cell?_alloc_new]
  match k, hk' with
  | 0, _ =>
    match j, hy with
    | 0, hy => simpa [lst2, Ch.cells] using hy
    | 1, hy => simpa [lst2, Ch.cells] using hy
    | 2, hy => simpa [lst2, Ch.cells] using hy
    | (j + 3), hy => simp [lst2, Ch.cells] at hy
  | 1, _ =>
    match j, hy with
    | 0, hy => simpa [lst2, Ch.cells] using hy
    | 1, hy => simpa [lst2, Ch.cells] using hy
    | 2, hy => simpa [lst2, Ch.cells] using hy
    | (j + 3), hy => simp [lst2, Ch.cells] at hy
theorem sz2 : SzC lst2 := by
  intro x hx
  simp only [lst2, List.mem_cons, List.not_mem_nil, or_false] at hx
  rcases hx with rfl | rfl
  · exact ⟨by decide, by decide⟩
  · exact ⟨by decide, by decide⟩
set_option maxHeartbeats 4000000 in
set_option maxRecDepth 100000 in
theorem storeRecordsBack_walk (n : Int) (v : Value) (l : List Ch) (t : ByteArray) (w : World) (_hn : -9223372036854775808 ≤ n ∧ n < 9223372036854775808) (hv : Chs w v l) (hl : LC l) (ht : t.size ≤ 140737488351232) :
    Calls Try.prog 3 #[.int .i64 n, v, .string t] w fun e w' => e = .returned (.bool true) ∧ Below w.heap.size w w' := by
  have V : Aside (Chs w v l ∧ LC l) := ⟨hv, hl⟩
  obtain ⟨a, cap, rfl, _, _⟩ := hv.len
  have HT : Aside (t.size ≤ 140737488355328) := by show _ ≤ _; omega
  clear hv hl ht
  go_enter Try.func3, Try.ntmps3
  go_wp2_with fail
  have B0 : Below w.heap.size w (w.alloc (.cells #[.string ⟨#[97]⟩, .string ⟨#[49]⟩, .bool false, .string ⟨#[98]⟩, .string ⟨#[]⟩, .bool true] 27)) := (Below.refl _ _).alloc (Nat.le_refl _) _
  refine (record_any _ 1 lst2 _ (two_chs w) sz2).mono ?_
  rintro e w1 ⟨rfl, hb⟩
  have B1 : Aside (Below w.heap.size w w1) := B0.trans (hb.mono B0.size)
  clear hb B0
  rw [rec2]
  go_wp2_with fail
  refine (owns_any _ l w1 (V.out.1.below B1.out) V.out.2.2).mono ?_
  rintro e w2 ⟨v2, rfl, ho, hb⟩
  have B2 : Aside (Chs w2 v2 l ∧ Below w.heap.size w w2) := ⟨ho.chs, B1.out.trans (hb.mono B1.out.size)⟩
  clear ho hb B1
  go_wp2_with fail
  refine (record_any v2 n l w2 B2.out.1 V.out.2.1).mono ?_
  rintro e w3 ⟨rfl, hb⟩
  have B3 : Aside (Below w.heap.size w w3) := B2.out.2.trans (hb.mono B2.out.2.size)
  clear hb B2
  have RB := rec_back n l
  have RN := rec_no n l
  obtain ⟨q, hq⟩ : ∃ q, q = recR n l := ⟨_, rfl⟩
  rw [← hq] at RB RN ⊢
  clear hq
  obtain ⟨T, E⟩ := q
  simp only at RB RN ⊢
  by_cases h0 : E = 0
  · obtain ⟨z1, z2, z3, z4⟩ := RB T h0 rfl
    have Z : Aside (T.size ≤ 140737488355328 ∧ seeV T.data.toList = n ∧ seeL T.data.toList = l ∧ unOk T) := ⟨by omega, z2, z3, z4⟩
    subst h0
    clear RB RN z1 z2 z3 z4
    go_wp2_with fail
    refine (unrecord_yes T w3 Z.out.1 Z.out.2.2.2).mono ?_
    rintro e w4 ⟨v4, rfl, ho, hb⟩
    rw [Z.out.2.1]
    have B4 : Aside (Chs w4 v4 l ∧ Below w.heap.size w w4) := ⟨by have := ho.chs; rw [Z.out.2.2.1] at this; exact this, B3.out.trans (hb.mono B3.out.size)⟩
    clear ho hb B3 Z
    go_wp2_with fail
    refine (sameC_any v4 (.slice a l.length cap) l l w4 B4.out.1 (V.out.1.below B4.out.2) rfl).mono ?_
    rintro e w5 ⟨rfl, hb⟩
    have B5 : Aside (Below w.heap.size w w5) := B4.out.2.trans (hb.mono B4.out.2.size)
    clear hb B4
    by_cases hu : unOk t
    · have U : Aside (unOk t) := hu
      clear hu
      go_wp2_with fail
      refine (unrecord_yes t w5 HT.out U.out).mono ?_
      rintro e w6 ⟨v6, rfl, ho, hb⟩
      have B6 : Aside (Chs w6 v6 (seeL t.data.toList) ∧ Below w.heap.size w w6) := ⟨ho.chs, B5.out.trans (hb.mono B5.out.size)⟩
      clear ho hb B5
      go_wp2_with fail
      refine (record_any v6 (seeV t.data.toList) (seeL t.data.toList) w6 B6.out.1 (rds_sz _ _)).mono ?_
      rintro e w7 ⟨rfl, hb⟩
      have B7 : Aside (Below w.heap.size w w7) := B6.out.2.trans (hb.mono B6.out.2.size)
      rw [U.out.1, U.out.2]
      clear hb B6
      have hT : (t.toList == t.toList) = true := by rw [beq_iff_eq]
      go_wp2_with fail
      go_ret
      exact ⟨rfl, B7.out⟩
    · have U : Aside (¬ unOk t) := hu
      clear hu
      go_wp2_with fail
      refine (unrecord_no t w5 HT.out U.out).mono ?_
      rintro e w6 ⟨rfl, hb⟩
      have B6 : Aside (Below w.heap.size w w6) := B5.out.trans (hb.mono B5.out.size)
      clear hb B5
      go_wp2_with fail
      go_ret
      exact ⟨rfl, B6.out⟩
  · have hT : T = ⟨#[]⟩ := RN h0
    have h1 : ¬ (E : Int) = 0 := by omega
    subst hT
    clear RB RN h0
    by_cases hu : unOk t
    · have U : Aside (unOk t) := hu
      clear hu
      go_wp2_with fail
      refine (unrecord_yes t w3 HT.out U.out).mono ?_
      rintro e w6 ⟨v6, rfl, ho, hb⟩
      have B6 : Aside (Chs w6 v6 (seeL t.data.toList) ∧ Below w.heap.size w w6) := ⟨ho.chs, B3.out.trans (hb.mono B3.out.size)⟩
      clear ho hb B3
      go_wp2_with fail
      refine (record_any v6 (seeV t.data.toList) (seeL t.data.toList) w6 B6.out.1 (rds_sz _ _)).mono ?_
      rintro e w7 ⟨rfl, hb⟩
      have B7 : Aside (Below w.heap.size w w7) := B6.out.2.trans (hb.mono B6.out.2.size)
      rw [U.out.1, U.out.2]
      clear hb B6
      have hT : (t.toList == t.toList) = true := by rw [beq_iff_eq]
      go_wp2_with fail
      go_ret
      exact ⟨rfl, B7.out⟩
    · have U : Aside (¬ unOk t) := hu
      clear hu
      go_wp2_with fail
      refine (unrecord_no t w3 HT.out U.out).mono ?_
      rintro e w6 ⟨rfl, hb⟩
      have B6 : Aside (Below w.heap.size w w6) := B3.out.trans (hb.mono B3.out.size)
      clear hb B3
      go_wp2_with fail
      go_ret
      exact ⟨rfl, B6.out⟩
end Go.Proofs.Ytmdjicakjljmlaa
