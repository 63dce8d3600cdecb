/-
  THE WALKS: layRef, tells.
-/
import Derived.Test.YtjnjliojkcnddabRefW3
namespace Go.Proofs.Ytjnjliojkcnddab
open Go.RowKit

set_option maxHeartbeats 2000000 in
theorem layRef_any (B g : Nat) (v : Value) (s : WS) (x : V) (w : World) (hx : x.fits) (hx2 : x.s.size ≤ 140737488355000) (H : XAt B w g v s) :
    Calls Try.prog 30 #[.pointer (some ⟨g, 0, none⟩), x.agg] w fun e w' => e = .returned (.tuple #[]) ∧ LaidX B g v (s.put x) w w' := by
  obtain ⟨k, u, i, t⟩ := x
  obtain ⟨⟨k0, k1⟩, hu, ⟨i0, i1⟩, ht⟩ := hx
  simp only at k0 k1 hu i0 i1 ht hx2
  have ht2 : t.size ≤ 140737488355000 := hx2
  unfold V.agg
  simp only
  have V : Aside (XAt B w g v s) := H
  clear H
  have hb : Below w.heap.size w (w.alloc (.cells #[.int .i64 k, .int .u64 u, .int .i64 i, .string t] 31)) := (Below.refl _ _).alloc (Nat.le_refl _) _
  have V1 : Aside (XAt B (w.alloc (.cells #[.int .i64 k, .int .u64 u, .int .i64 i, .string t] 31)) g v s) := V.out.below hb
  have HB : Aside (Below w.heap.size w (w.alloc (.cells #[.int .i64 k, .int .u64 u, .int .i64 i, .string t] 31))) := hb
  clear hb
  go_enter Try.func30, Try.ntmps30
  by_cases e0 : k = 0
  · have U : Aside (s.put ⟨k, u, i, t⟩ = s.lay (form u)) := by unfold WS.put; rw [if_pos e0]; rfl
    subst e0
    go_wp2_with fail
    refine (xUint_any B g v s u _ hu V1.out).mono ?_
    rintro e w2 ⟨rfl, hl⟩
    have L : Aside (LaidX B g v (s.lay (form u)) w w2) := LaidX.after HB.out hl V.out
    clear hl
    go_wp2_with fail
    first | go_end0 | refine bodyPost_ret (results_none rfl _ _ _) rfl ?_
    exact ⟨rfl, by rw [U.out]; exact L.out⟩
  by_cases e1 : k = 1
  · have U : Aside (s.put ⟨k, u, i, t⟩ = s.lay (form (zig i))) := by unfold WS.put; rw [if_neg e0, if_pos e1]; rfl
    subst e1
    clear e0
    go_wp2_with fail
    refine (xInt_any B g v s i _ i0 i1 V1.out).mono ?_
    rintro e w2 ⟨rfl, hl⟩
    have L : Aside (LaidX B g v (s.lay (form (zig i))) w w2) := LaidX.after HB.out hl V.out
    clear hl
    go_wp2_with fail
    first | go_end0 | refine bodyPost_ret (results_none rfl _ _ _) rfl ?_
    exact ⟨rfl, by rw [U.out]; exact L.out⟩
  by_cases e2 : k = 2
  · have U : Aside (s.put ⟨k, u, i, t⟩ = s.lay [if i ≠ 0 then 1 else 0]) := by unfold WS.put; rw [if_neg e0, if_neg e1, if_pos e2]; rfl
    subst e2
    clear e0 e1
    go_wp2_with fail
    refine (xBool_any B g v s (i != 0) _ V1.out).mono ?_
    rintro e w2 ⟨rfl, hl⟩
    have L : Aside (LaidX B g v (s.lay [if (i != 0) = true then 1 else 0]) w w2) := LaidX.after HB.out hl V.out
    clear hl
    go_wp2_with fail
    first | go_end0 | refine bodyPost_ret (results_none rfl _ _ _) rfl ?_
    refine ⟨rfl, ?_⟩
    rw [U.out]
    have := L.out
    simpa using this
  by_cases e3 : k = 3
  · have U : Aside (s.put ⟨k, u, i, t⟩ = s.lay [UInt8.ofNat u]) := by unfold WS.put; rw [if_neg e0, if_neg e1, if_neg e2, if_pos e3]; rfl
    subst e3
    clear e0 e1 e2
    obtain ⟨c, hc⟩ : ∃ c, c = UInt8.ofNat u := ⟨_, rfl⟩
    have C : Aside (c8 c = (u : Int) % 256) := by unfold c8; rw [hc, UInt8.toNat_ofNat']; show _ = _; omega
    rw [← hc] at U
    clear hc
    go_wp2_with fail
    refine (xByte_eq (n := _) (c := c) ?hn B g v s _ V1.out).mono ?_
    case hn => rw [C.out]
    rintro e w2 ⟨rfl, hl⟩
    have L : Aside (LaidX B g v (s.lay [c]) w w2) := LaidX.after HB.out hl V.out
    clear hl
    go_wp2_with fail
    first | go_end0 | refine bodyPost_ret (results_none rfl _ _ _) rfl ?_
    exact ⟨rfl, by rw [U.out]; exact L.out⟩
  by_cases e4 : k = 4
  · have U : Aside (s.put ⟨k, u, i, t⟩ = s.lay (form t.size ++ t.data.toList)) := by unfold WS.put; rw [if_neg e0, if_neg e1, if_neg e2, if_neg e3, if_pos e4]; rfl
    subst e4
    clear e0 e1 e2 e3
    go_wp2_with fail
    refine (xText_any B g v s t _ ht2 V1.out).mono ?_
    rintro e w2 ⟨rfl, hl⟩
    have L : Aside (LaidX B g v (s.lay (form t.size ++ t.data.toList)) w w2) := LaidX.after HB.out hl V.out
    clear hl
    go_wp2_with fail
    first | go_end0 | refine bodyPost_ret (results_none rfl _ _ _) rfl ?_
    exact ⟨rfl, by rw [U.out]; exact L.out⟩
  by_cases e5 : k = 5
  · have U : Aside (s.put ⟨k, u, i, t⟩ = s.count i) := by unfold WS.put; rw [if_neg e0, if_neg e1, if_neg e2, if_neg e3, if_neg e4, if_pos e5]; rfl
    subst e5
    clear e0 e1 e2 e3 e4
    go_wp2_with fail
    refine (xCount_any B g v s i _ i0 i1 V1.out).mono ?_
    rintro e w2 ⟨rfl, hl⟩
    have L : Aside (LaidX B g v (s.count i) w w2) := LaidX.after HB.out hl V.out
    clear hl
    go_wp2_with fail
    first | go_end0 | refine bodyPost_ret (results_none rfl _ _ _) rfl ?_
    exact ⟨rfl, by rw [U.out]; exact L.out⟩
  · have U : Aside (s.put ⟨k, u, i, t⟩ = s) := by unfold WS.put; rw [if_neg e0, if_neg e1, if_neg e2, if_neg e3, if_neg e4, if_neg e5]; rfl
    go_wp2_with fail
    first | go_end0 | refine bodyPost_ret (results_none rfl _ _ _) rfl ?_
    exact ⟨rfl, by rw [U.out]; exact LaidX.same V.out (Below.kept HB.out _)⟩
set_option maxHeartbeats 4000000 in
set_option maxRecDepth 100000 in
theorem tells_any (B B' g g' : Nat) (v v' : Value) (s : WS) (w : World) (H : WAt B w g v s) (H' : XAt B' w g' v' s) :
    Calls Try.prog 31 #[.pointer (some ⟨g, 0, none⟩), .pointer (some ⟨g', 0, none⟩)] w fun e w' => e = .returned (.bool true) ∧ Below w.heap.size w w' := by
  have V : Aside (WAt B w g v s ∧ XAt B' w g' v' s) := ⟨H, H'⟩
  clear H H'
  go_enter Try.func31, Try.ntmps31
  go_wp2_with fail
  refine (wOut_any _ _ _ _ w V.out.1).mono ?_
  rintro e w1 ⟨v1, rfl, ho, hb⟩
  have A1 : Aside (Bytes w1 v1 s.out ∧ Below w.heap.size w w1) := ⟨ho.bytes, hb⟩
  clear ho hb
  go_wp2_with fail
  refine (xOut_any _ _ _ _ w1 (V.out.2.below A1.out.2)).mono ?_
  rintro e w2 ⟨v2, rfl, ho, hb⟩
  have A2 : Aside (Bytes w2 v1 s.out ∧ Bytes w2 v2 s.out ∧ Below w.heap.size w w2) := ⟨A1.out.1.below hb, ho.bytes, A1.out.2.trans (hb.mono A1.out.2.size)⟩
  clear ho hb
  obtain ⟨a1, c1, rfl, _, _⟩ := A2.out.1.len
  go_wp2_with fail
  refine (same_any _ _ s.out s.out w2 A2.out.1 A2.out.2.1).mono ?_
  rintro e w2 ⟨rfl, rfl⟩
  rw [decide_eq_true rfl]
  go_wp2_with fail
  refine (wLen_any _ _ _ _ w2 (V.out.1.below A2.out.2.2)).mono ?_
  rintro e w2 ⟨rfl, rfl⟩
  go_wp2_with fail
  refine (xLen_any _ _ _ _ w2 (V.out.2.below A2.out.2.2)).mono ?_
  rintro e w2 ⟨rfl, rfl⟩
  go_wp2_with fail
  refine (wErr_any _ _ _ _ w2 (V.out.1.below A2.out.2.2)).mono ?_
  rintro e w2 ⟨rfl, rfl⟩
  go_wp2_with fail
  refine (xErr_any _ _ _ _ w2 (V.out.2.below A2.out.2.2)).mono ?_
  rintro e w2 ⟨rfl, rfl⟩
  by_cases he : s.e = 0
  · have he' : (s.e : Int) = 0 := by omega
    go_wp2_with fail
    go_ret
    exact ⟨rfl, A2.out.2.2⟩
  · have he' : ((s.e : Int) == 0) = false := by rw [beq_eq_false_iff_ne]; omega
    have eo : s.out = [] := by unfold WS.out; rw [if_neg he]
    rw [eo]
    clear he eo
    go_wp2_with fail
    go_ret
    exact ⟨rfl, A2.out.2.2⟩
end Go.Proofs.Ytjnjliojkcnddab
