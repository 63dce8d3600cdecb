/-
  Since.
-/
import Derived.Test.YtfkoiehnkelpoaaDoorWtF
namespace Go.Proofs.YtfkoiehnkelpoaaDoor
open Go.RowKit
namespace Wt
/-- What Since tells. -/
def Si (w : World) (s : St) (ver : Int) (path : ByteArray) (most : Int) (r : Value) (x : Int) (w' : World) : Prop :=
  Below w.heap.size w w' ∧ (sinE s ver path most ≠ 0 → r = .slice none 0 0 ∧ x = 0) ∧ (sinE s ver path most = 0 → OwnR kE w.heap.size w' r (sinL s ver path most) ∧ x = sinV s ver path most)
set_option maxHeartbeats 16000000 in
set_option maxRecDepth 100000 in
theorem since_any (w : World) (g : Nat) (v : Value) (s : St) (ver : Int) (path : ByteArray) (most : Int) (hm : L.HasM w) (H : Hb w g v s) (ok : s.Ok) :
    Calls Tryd.prog 14 #[.pointer (some ⟨g, 0, none⟩), .int .i64 ver, .string path, .int .i64 most] w fun e w' => ∃ a n c x, e = .returned (.tuple #[.slice a n c, .int .i64 x, .int .i64 (sinE s ver path most)]) ∧ Si w s ver path most (.slice a n c) x w' := by
  obtain ⟨lo, hi, es⟩ := s
  have H' := Lib.hid H
  have OK := Lib.hid ok
  obtain ⟨b0, b1, b2⟩ := ok.b
  simp only at b0 b1 b2
  have PA := Lib.hid (L.path_any path w hm)
  have MM := Lib.hid hm
  have PE : Hid (∀ e, e = sinE ⟨lo, hi, es⟩ ver path most → e ≠ 0 → ∀ w', Below w.heap.size w w' → ∃ a n c x, Ending.returned (.tuple #[.slice none 0 0, .int .i64 0, .int .i64 e]) = .returned (.tuple #[.slice a n c, .int .i64 x, .int .i64 (sinE ⟨lo, hi, es⟩ ver path most)]) ∧ Si w ⟨lo, hi, es⟩ ver path most (.slice a n c) x w') := Lib.hid fun e he h0 w' hb => ⟨none, 0, 0, 0, by rw [he], hb, fun _ => ⟨rfl, rfl⟩, fun q => absurd (he.trans q) h0⟩
  clear H ok hm
  go_enter Tryd.func14, Tryd.ntmps14
  by_cases h1 : most < 1
  · have E : Hid (1 = sinE ⟨lo, hi, es⟩ ver path most) := Lib.hid (by unfold sinE; rw [if_pos (.inl h1)])
    go_wp2_with fail
    go_ret3
    exact PE.out 1 E.out (by decide) _ (Below.refl _ _)
  by_cases h2 : most > 100
  · have E : Hid (1 = sinE ⟨lo, hi, es⟩ ver path most) := Lib.hid (by unfold sinE; rw [if_pos (.inr h2)])
    go_wp2_with fail
    go_ret3
    exact PE.out 1 E.out (by decide) _ (Below.refl _ _)
  have E0 : Hid (sinE ⟨lo, hi, es⟩ ver path most = if L.splitE path ≠ 0 then 41 else if ver < lo then 220 else if hi < ver then 221 else 0) := Lib.hid (by unfold sinE; rw [if_neg (by omega)])
  go_wp2_with fail
  refine PA.out.mono ?_
  rintro e w1 ⟨rfl, hb⟩
  have B1 := Lib.hid hb
  have H1 : Hid (Hb w1 g v ⟨lo, hi, es⟩ ∧ L.HasM w1) := Lib.hid ⟨H'.out.below hb, MM.out.below hb⟩
  clear hb PA H' MM
  have c0 := H1.out.1.c0
  have c1 := H1.out.1.c1
  simp only at c0 c1
  by_cases h3 : L.splitE path = 0
  · have g3 : (L.splitE path == 0) = true := by rw [beq_iff_eq]; exact h3
    by_cases h4 : ver < lo
    · have E : Hid (220 = sinE ⟨lo, hi, es⟩ ver path most) := Lib.hid (by rw [E0.out, if_neg (by simpa using h3), if_pos h4])
      clear h3
      go_wp2_with fail
      go_ret3
      exact PE.out 220 E.out (by decide) _ B1.out
    by_cases h5 : ver > hi
    · have E : Hid (221 = sinE ⟨lo, hi, es⟩ ver path most) := Lib.hid (by rw [E0.out, if_neg (by simpa using h3), if_neg h4, if_pos h5])
      clear h3
      go_wp2_with fail
      go_ret3
      exact PE.out 221 E.out (by decide) _ B1.out
    have E : Hid (sinE ⟨lo, hi, es⟩ ver path most = 0) := Lib.hid (by rw [E0.out, if_neg (by simpa using h3), if_neg h4, if_neg h5])
    clear h3 PE E0
    have UP0 := Lib.hid (upTo_any es ver v w1.drew ((H1.out.1.row.row okE).below (below_drawn w1 1)))
    obtain ⟨u, hu⟩ : ∃ u, u = upN es ver := ⟨_, rfl⟩
    rw [← hu] at UP0
    have HU : Hid (u = upN es ver ∧ u ≤ es.length) := Lib.hid ⟨hu, by rw [hu]; exact upN_le _ _⟩
    clear hu
    obtain ⟨a, cap, rfl, hlc, hcm⟩ := (H1.out.1.row.row okE).len
    unfold maxLen at hcm
    simp only at hlc
    obtain ⟨n, hn⟩ : ∃ n, n = es.length := ⟨_, rfl⟩
    simp only at H1 UP0
    rw [← hn] at hlc H1 UP0 HU
    have HN := Lib.hid hn
    clear hn
    have hun : (u : Int) ≤ (n : Int) := by have := HU.out.2; omega
    have hun' : u ≤ n := HU.out.2
    have huc : u ≤ cap := by omega
    obtain ⟨ab, hab, ROW⟩ : ∃ ab : Option Addr, (if cap = u then a else a.map (fun x => x.add (u * 5))) = ab ∧ Hid (Row kE w1.drew (.slice ab (n - u) (cap - u)) (es.drop u)) := by
      refine ⟨_, rfl, Lib.hid ?_⟩
      have hr := (H1.out.1.row.row okE).below (below_drawn w1 1)
      simp only at hr
      by_cases q : cap = u
      · rw [if_pos q]
        have hz : n - u = 0 := by omega
        have hz2 : cap - u = 0 := by omega
        rw [hz, hz2]
        exact Row.none_of _ rfl (by rw [List.length_drop, ← HN.out]; exact hz) (by decide) (fun _ => rfl)
      · rw [if_neg q]
        obtain ⟨a', ea, h⟩ := Row.drop hr u (by rw [← HN.out]; exact hun') (by omega)
        subst ea
        exact h
    have UP : Hid (Calls Tryd.prog 30 #[.slice a n cap, .int .i64 ver] w1.drew fun e w' => ∃ V, e = .returned V ∧ V = .int .i64 u ∧ w' = w1.drew) := Lib.hid (UP0.out.mono fun _ _ q => ⟨_, q.1, rfl, q.2⟩)
    clear UP0
    have WI := Lib.hid (within_any (es.drop u) path _ w1.drew (H1.out.2.below (below_drawn w1 1)) ROW.out (by have := OK.out.n; simp only at this; rw [List.length_drop]; omega))
    have z2 : w1.drew.cell? ⟨g, 2, none⟩ = some (.slice a n cap) := H1.out.1.c2
    go_wp2_with fail
    go_region_held3 (fun W : World => W.cell? ⟨g, 2, none⟩ = some (.slice a n cap)) (first | assumption | go_keep) (
       (go_at_call 30
        refine UP.out.mono ?_
        rintro e x6 ⟨V, rfl, rfl, rfl⟩))
    go_wp2_with fail
    refine WI.out.mono ?_
    rintro e w2 ⟨v2, rfl, ho, hb⟩
    obtain ⟨I, hI⟩ : ∃ I, I = inL ⟨lo, hi, es⟩ ver path := ⟨_, rfl⟩
    have EI : (es.drop u).filter (fun e => L.underB e.p path) = I := by rw [hI, HU.out.1]; rfl
    rw [EI] at ho
    have HI : Hid (sinL ⟨lo, hi, es⟩ ver path most = I.take (whN I most) ∧ sinV ⟨lo, hi, es⟩ ver path most = (if whN I most < I.length then (I.getD (whN I most - 1) Ev.z).v else hi) ∧ ∀ e ∈ I, 0 ≤ e.v ∧ e.v ≤ 1152921504606846976) := Lib.hid ⟨by rw [hI]; rfl, by rw [hI]; rfl, fun e he => by
      rw [hI, inL_eq OK.out] at he
      have := OK.out.r e (List.mem_filter.1 he).1
      simp only at this
      omega⟩
    have B2 : Hid (Below w.heap.size w w2 ∧ Hb w2 g (.slice a n cap) ⟨lo, hi, es⟩) := Lib.hid ⟨B1.out.trans (((below_drawn w1 1).trans (hb.mono (Nat.le_refl _))).mono B1.out.size), (H1.out.1.below (below_drawn w1 1)).below hb⟩
    have O2 : Hid (OwnR kE w.heap.size w2 v2 I) := Lib.hid (ho.mono B1.out.size)
    clear ho hb EI hI WI UP z2 hab ROW c0 c1
    obtain ⟨a2, cap2, rfl, hlc2, hcm2⟩ := (O2.out.row okE).len
    unfold maxLen at hcm2
    obtain ⟨n2, hn2⟩ : ∃ n2, n2 = I.length := ⟨_, rfl⟩
    rw [← hn2] at hlc2 O2 ⊢
    rw [← hn2] at HI
    have HN2 := Lib.hid hn2
    clear hn2
    have WH := Lib.hid (whole_any I most _ w2 (O2.out.row okE) (by omega) HI.out.2.2)
    obtain ⟨N, hN⟩ : ∃ N, N = whN I most := ⟨_, rfl⟩
    have HW : Hid (N ≤ n2 ∧ (N < n2 → 0 < N)) := Lib.hid (by rw [hN, HN2.out]; exact ⟨whN_le _ _, whN_pos _ _⟩)
    rw [← hN] at WH HI
    clear hN
    have hNle : N ≤ n2 := HW.out.1
    have d1 := B2.out.2.c1
    simp only at d1
    go_wp2_with fail
    refine WH.out.mono ?_
    rintro e w3 ⟨rfl, rfl⟩
    by_cases h6 : N < n2
    · have h6' : (N : Int) < (n2 : Int) := by omega
      have h0 : 0 < N := HW.out.2 h6
      obtain ⟨bb, off, rfl, k0, -⟩ := row_at (O2.out.row okE) (N - 1) (by rw [← HN2.out]; omega)
      obtain ⟨y, hy⟩ : ∃ y, y = (I.getD (N - 1) Ev.z).v := ⟨_, rfl⟩
      rw [← hy] at k0
      have HY := Lib.hid hy
      clear hy
      obtain ⟨M, hMN⟩ : ∃ M, N = M + 1 := ⟨N - 1, by omega⟩
      rw [show N - 1 = M by omega] at k0
      have hwr : IntKind.i64.wrap ((N : Int) - 1) = (M : Int) := by rw [show (N : Int) - 1 = (M : Int) by omega, IntKind.wrap_i64]; omega
      have hN0 : (0 : Int) ≤ (N : Int) := by omega
      have hNc : (N : Int) ≤ (cap2 : Int) := by omega
      have hM0 : (0 : Int) ≤ (M : Int) := by omega
      have k0' : w3.drew.cell? ⟨bb, off + M * 5, none⟩ = some (.int .i64 y) := k0
      have hM : (M : Int) < (n2 : Int) := by omega
      have HMN := Lib.hid hMN
      clear hMN
      go_wp2_with fail
      go_region_held3 (fun W : World => W.cell? ⟨bb, off + M * 5, none⟩ = some (.int .i64 y)) (first | assumption | go_keep) (fail)
      go_wp2_with fail
      go_ret3
      refine ⟨_, _, _, _, by rw [E.out]; rfl, B2.out.1.trans ((below_drawn _ 1).mono B2.out.1.size), fun q => absurd E.out q, fun _ => ⟨?_, ?_⟩⟩
      · rw [HI.out.1]
        exact (OwnR.take okE O2.out N (by rw [← HN2.out]; omega)).below (below_drawn _ 1)
      · rw [HI.out.2.1, if_pos h6, HY.out]
    · have d1' : w3.drew.cell? ⟨g, 1, none⟩ = some (.int .i64 hi) := d1
      have h6' : ¬ (N : Int) < (n2 : Int) := by omega
      go_wp2_with fail
      go_region_held3 (fun W : World => W.cell? ⟨g, 1, none⟩ = some (.int .i64 hi)) (first | assumption | go_keep) (fail)
      go_wp2_with fail
      go_ret3
      refine ⟨_, _, _, _, by rw [E.out]; rfl, B2.out.1.trans ((below_drawn _ 1).mono B2.out.1.size), fun q => absurd E.out q, fun _ => ⟨?_, ?_⟩⟩
      · rw [HI.out.1, List.take_of_length_le (by rw [← HN2.out]; omega)]
        exact O2.out.below (below_drawn _ 1)
      · rw [HI.out.2.1, if_neg h6]
  · have g3 : (L.splitE path == 0) = false := by rw [beq_eq_false_iff_ne]; exact h3
    have E : Hid (41 = sinE ⟨lo, hi, es⟩ ver path most) := Lib.hid (by rw [E0.out, if_pos h3])
    clear h3
    go_wp2_with fail
    go_ret3
    exact PE.out 41 E.out (by decide) _ B1.out
end Wt
end Go.Proofs.YtfkoiehnkelpoaaDoor
