/-
  THE LAW StoreRecords.
-/
import Derived.Test.YtmdjicakjljmlaaSrI
namespace Go.Proofs.Ytmdjicakjljmlaa
open Go.RowKit
set_option maxHeartbeats 4000000 in
set_option maxRecDepth 100000 in
theorem storeRecords_walk (n : Int) (v : Value) (l : List Ch) (t : ByteArray) (w : World) (_hn : -9223372036854775808 ≤ n ∧ n < 9223372036854775808) (hv : Chs w v l) (hl : LC l) (ht : t.size ≤ 140737488351232) :
    Calls Try.prog 4 #[.int .i64 n, v, .string t] w fun e w' => e = .returned (.bool true) ∧ Below w.heap.size w w' := by
  have V : Aside (Chs w v l ∧ LC l) := ⟨hv, hl⟩
  obtain ⟨a, cap, rfl, _, _⟩ := hv.len
  have HT : Aside (t.size ≤ 140737488355328) := by show _ ≤ _; omega
  clear hv hl ht
  go_enter Try.func4, Try.ntmps4
  go_wp2_with fail
  refine (owns_any _ l w V.out.1 V.out.2.2).mono ?_
  rintro e w2 ⟨v2, rfl, ho, hb⟩
  have B2 : Aside (Chs w2 v2 l ∧ Below w.heap.size w w2) := ⟨ho.chs, hb⟩
  clear ho hb
  go_wp2_with fail
  refine (record_any v2 n l w2 B2.out.1 V.out.2.1).mono ?_
  rintro e w3 ⟨rfl, hb⟩
  have B3 : Aside (Chs w3 v2 l ∧ Below w.heap.size w w3) := ⟨B2.out.1.below hb, B2.out.2.trans (hb.mono B2.out.2.size)⟩
  clear hb B2
  obtain ⟨q, hq⟩ : ∃ q, q = recR n l := ⟨_, rfl⟩
  rw [← hq]
  have HQ : Aside (q = recR n l) := hq
  clear hq
  go_wp2_with fail
  refine (rrecord_any _ n l w3 (V.out.1.below B3.out.2)).mono ?_
  rintro e w4 ⟨rfl, hb⟩
  rw [← HQ.out]
  have B4 : Aside (Chs w4 v2 l ∧ Below w.heap.size w w4) := ⟨B3.out.1.below hb, B3.out.2.trans (hb.mono B3.out.2.size)⟩
  clear hb B3 HQ
  obtain ⟨T, E⟩ := q
  simp only
  have hT : (T.toList == T.toList) = true := by rw [beq_iff_eq]
  go_wp2_with fail
  refine (sameC_any v2 (.slice a l.length cap) l l w4 B4.out.1 (V.out.1.below B4.out.2) rfl).mono ?_
  rintro e w5 ⟨rfl, hb⟩
  have B5 : Aside (Below w.heap.size w w5) := B4.out.2.trans (hb.mono B4.out.2.size)
  clear hb B4 hT
  by_cases hu : unOk t
  · have U : Aside (unOk t) := hu
    clear hu
    go_wp2_with fail
    refine (unrecord_yes t w5 HT.out U.out).mono ?_
    rintro e w6 ⟨v6, rfl, ho, hb⟩
    have B6 : Aside (Chs w6 v6 (seeL t.data.toList) ∧ Below w.heap.size w w6) := ⟨ho.chs, B5.out.trans (hb.mono B5.out.size)⟩
    clear ho hb B5
    go_wp2_with fail
    refine (runrecord_any t w6 HT.out).mono ?_
    rintro e w7 ⟨hA, hb⟩
    rcases hA with ⟨hr, v7, rfl, ho⟩ | ⟨hr, _⟩
    case inr => exact absurd (un_ref t U.out) hr
    have RU := ref_un t hr
    rw [← RU.2.1]
    have B7 : Aside (Chs w7 v6 (seeL t.data.toList) ∧ Chs w7 v7 (seeL t.data.toList) ∧ Below w.heap.size w w7) := ⟨B6.out.1.below hb, by rw [RU.2.2]; exact ho.chs, B6.out.2.trans (hb.mono B6.out.2.size)⟩
    clear ho hb hr RU B6
    go_wp2_with fail
    refine (sameC_any v6 v7 _ _ w7 B7.out.1 B7.out.2.1 rfl).mono ?_
    rintro e w8 ⟨rfl, hb⟩
    have B8 : Aside (Below w.heap.size w w8) := B7.out.2.2.trans (hb.mono B7.out.2.2.size)
    clear hb B7
    go_wp2_with fail
    go_ret
    exact ⟨rfl, B8.out⟩
  · have U : Aside (¬ unOk t) := hu
    clear hu
    go_wp2_with fail
    refine (unrecord_no t w5 HT.out U.out).mono ?_
    rintro e w6 ⟨rfl, hb⟩
    have B6 : Aside (Below w.heap.size w w6) := B5.out.trans (hb.mono B5.out.size)
    clear hb B5
    go_wp2_with fail
    refine (runrecord_any t w6 HT.out).mono ?_
    rintro e w7 ⟨hA, hb⟩
    rcases hA with ⟨hr, _⟩ | ⟨hr, rfl⟩
    case inl => exact absurd (ref_un t hr).1 U.out
    have B7 : Aside (Below w.heap.size w w7) := B6.out.trans (hb.mono B6.out.size)
    clear hb B6 hr
    go_wp2_with fail
    refine (sameC_any _ _ [] [] w7 (Chs.nil w7) (Chs.nil w7) rfl).mono ?_
    rintro e w8 ⟨rfl, hb⟩
    have B8 : Aside (Below w.heap.size w w8) := B7.out.trans (hb.mono B7.out.size)
    clear hb B7
    go_wp2_with fail
    go_ret
    exact ⟨rfl, B8.out⟩
end Go.Proofs.Ytmdjicakjljmlaa
