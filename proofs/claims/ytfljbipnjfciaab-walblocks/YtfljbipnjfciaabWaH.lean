/-
  Room, Cut to the end.
-/
import Derived.Test.YtfljbipnjfciaabWaG
namespace Go.Proofs.Ytfljbipnjfciaab
open Go.RowKit Go.Maps
variable {B : Nat} {w w' : World} {l d : Nat} {pv : Value} {s : LS}
def LS.free (s : LS) : Nat := s.n - (s.es - s.fs)
def LS.stamps (s : LS) : Nat := min 512 (1152921504606846977 - s.es)
def roomL (s : LS) : Nat := if s.dead = true then 0 else min 32768 (464 * min s.free s.stamps - s.pay.length - 4)
set_option maxRecDepth 100000 in
set_option maxHeartbeats 2000000 in
theorem room_any (h : Lg B w l d pv s) : Calls Try.prog 23 #[.pointer (some ⟨l, 0, none⟩)] w fun e w' => e = .returned (.int .i64 (roomL s : Int)) ∧ Below w.heap.size w w' := by
  have p10 : w.cell? ⟨l, 10, none⟩ = some (.bool s.dead) := h.cell 10
  cases hd : s.dead with
  | true =>
    have E : Hid (roomL s = 0) := Lib.hid (by unfold roomL; rw [if_pos hd])
    rw [hd] at p10
    clear h hd
    go_enter Try.func23, Try.ntmps23
    go_wp2_with fail
    go_ret
    exact ⟨ret_int (by rw [E.out]; rfl), Below.refl _ _⟩
  | false =>
    rw [hd] at p10
    obtain ⟨a, cap, hpv, hlc, hcm⟩ := h.pay.bytes.len
    obtain ⟨F, hF⟩ : ∃ F, F = s.free := ⟨_, rfl⟩
    obtain ⟨T, hT⟩ : ∃ T, T = s.stamps := ⟨_, rfl⟩
    obtain ⟨pl, hpl⟩ : ∃ pl, pl = s.pay.length := ⟨_, rfl⟩
    have E : Hid (roomL s = min 32768 (464 * min F T - pl - 4)) := Lib.hid (by unfold roomL; rw [if_neg (by rw [hd]; simp), hF, hT, hpl])
    have hF2 : F ≤ 512 := by rw [hF]; unfold LS.free; have := h.fit.hi; omega
    have hT2 : T ≤ 512 := by rw [hT]; unfold LS.stamps; omega
    have hp2 : pl ≤ 237568 := by rw [hpl]; have := h.fit.pl; have := h.fit.hi; omega
    have FR : Hid (∀ W, Below w.heap.size w W → Calls Try.prog 62 #[.pointer (some ⟨l, 0, none⟩)] W fun e w' => e = .returned (.int .i64 (F : Int)) ∧ Below w.heap.size w w') := Lib.hid (fun W hb => by
      refine (free_any (h.below hb)).mono ?_
      rintro e w' ⟨rfl, hb2⟩
      exact ⟨by rw [hF]; rfl, hb.trans (hb2.mono hb.size)⟩)
    have ST : Hid (∀ W, Below w.heap.size w W → Calls Try.prog 63 #[.pointer (some ⟨l, 0, none⟩)] W fun e w' => e = .returned (.int .i64 (T : Int)) ∧ w' = W) := Lib.hid (fun W hb => by
      refine (stamps_any (h.below hb)).mono ?_
      rintro e w' ⟨rfl, rfl⟩
      exact ⟨by rw [hT]; rfl, rfl⟩)
    have KS : Hid (∀ W, Below w.heap.size w W → W.cell? ⟨l, 8, none⟩ = some (.slice a pl cap)) := Lib.hid (fun W hb => by rw [(h.below hb).cell 8, hpl, ← hpv]; rfl)
    have B0 : Hid (Below w.heap.size w w.drew) := Lib.hid (below_drawn w 1)
    unfold maxLen at hcm
    clear h hd hF hT hpl hpv hlc
    obtain ⟨M, hM⟩ : ∃ M, M = min F T := ⟨_, rfl⟩
    rw [← hM] at E
    have hM2 : M ≤ 512 := by omega
    have eM : (if T < F then (T : Int) else (F : Int)) = (M : Int) := by
      split <;> omega
    have w1 : IntKind.i64.wrap (464 * (M : Int)) = 464 * (M : Int) := wrap_in (by omega) (by omega)
    have w2 : IntKind.i64.wrap (464 * (M : Int) - (pl : Int)) = 464 * (M : Int) - (pl : Int) := wrap_in (by omega) (by omega)
    have w3 : IntKind.i64.wrap (464 * (M : Int) - (pl : Int) - 4) = 464 * (M : Int) - (pl : Int) - 4 := wrap_in (by omega) (by omega)
    clear hM
    go_enter Try.func23, Try.ntmps23
    go_wp2_with fail
    go_region_held (fun W : World => W.cell? ⟨l, 8, none⟩ = some (.slice a pl cap)) (first | exact KS.out _ hB2 | exact KS.out _ B0.out) (first | (go_at_call 62; refine (FR.out _ B0.out).mono ?_; rintro r w2 ⟨rfl, hB2⟩) | (go_at_call 63; refine (ST.out _ hB2).mono ?_; rintro r w3 ⟨rfl, rfl⟩))
    have B3 := Lib.hid hB2
    clear hB2 KS FR ST B0
    go_wp2_with fail
    all_goals
      go_ret
      exact ⟨ret_int (by rw [E.out]; omega), B3.out⟩
theorem cut_fin {Y : World} (h : Lg B Y l d pv s) (hk : Kept (fun k => k = l) w Y) : Lg B ((Y.setCell ⟨l, 4, none⟩ (.int .i64 (s.es : Int))).setCell ⟨l, 5, none⟩ (.int .i64 (s.ea : Int))) l d pv { s with fs := s.es, fa := s.ea } ∧ Kept (fun k => k = l) w ((Y.setCell ⟨l, 4, none⟩ (.int .i64 (s.es : Int))).setCell ⟨l, 5, none⟩ (.int .i64 (s.ea : Int))) := by
  have K1 : Kept (fun k => k = l) Y (Y.setCell ⟨l, 4, none⟩ (.int .i64 (s.es : Int))) := kept_set _ _ _ rfl
  have K2 : Kept (fun k => k = l) (Y.setCell ⟨l, 4, none⟩ (.int .i64 (s.es : Int))) ((Y.setCell ⟨l, 4, none⟩ (.int .i64 (s.es : Int))).setCell ⟨l, 5, none⟩ (.int .i64 (s.ea : Int))) := kept_set _ _ _ rfl
  have K12 := K1.trans K2 (fun _ _ h => h)
  have h1 := heap_setCell_same _ _ 4 _ _ (.int .i64 (s.es : Int)) h.self
  have h2 := heap_setCell_same _ _ 5 _ _ (.int .i64 (s.ea : Int)) h1
  obtain ⟨q1, q2, q3, q4, q5, q6, q7, q8, q9, q10, q11, q12, q13, q14⟩ := h.fit
  have hea : s.ea < s.n := by rw [q11]; exact Nat.mod_lt _ (by omega)
  refine ⟨⟨h2, h.pay.kept K12 (fun k hk e => h.ne k hk e), h.b, ⟨q1, q2, q3, q4, q5, ?_, Nat.le_refl _, ?_, q9, hea, ?_, ?_, q13, q14⟩⟩, hk.trans K12 (fun _ _ h => h)⟩
  · show 1 ≤ s.es
    omega
  · show s.es ≤ s.es + s.n
    omega
  · show s.ea = (s.ea + (s.es - s.es)) % s.n
    rw [Nat.sub_self, Nat.add_zero, Nat.mod_eq_of_lt hea]
  · show s.pay.length ≤ 464 * (s.n - (s.es - s.es))
    omega
set_option maxRecDepth 100000 in
set_option maxHeartbeats 2000000 in
theorem cut_end (h : Lg B w l d pv s) : Calls Try.prog 49 #[.pointer (some ⟨l, 0, none⟩), .agg #[.int .i64 (s.es : Int), .int .i64 (s.ea : Int)]] w fun e w' => e = .returned (.int .i64 0) ∧ Lg B w' l d pv { s with fs := s.es, fa := s.ea } ∧ Kept (fun k => k = l) w w' := by
  have H := Lib.hid h
  have h1 := h.fit.hi; have h2 := h.fit.lo; have h3 : s.ea < s.n := by rw [h.fit.a2]; exact Nat.mod_lt _ (by have := h.fit.lo; omega)
  have h4 := h.fit.f2; have h5 := h.fit.f3; have h6 := h.fit.f4; have h7 := h.fit.a1
  have eA : ((s.fa : Int) + ((s.es : Int) - (s.fs : Int))) % (s.n : Int) = (s.ea : Int) := by
    have q := h.fit.a2
    have e : (s.fa : Int) + ((s.es : Int) - (s.fs : Int)) = ((s.fa + (s.es - s.fs) : Nat) : Int) := by omega
    rw [e, q]
    simp
  obtain ⟨X, hX⟩ : ∃ X, X = w.alloc (.cells #[.int .i64 (s.es : Int), .int .i64 (s.ea : Int)] 49) := ⟨_, rfl⟩
  have HX := Lib.hid (show Lg B X l d pv s by rw [hX]; exact h.below ((Below.refl _ _).alloc (Nat.le_refl _) _))
  have BX : Hid (Below w.heap.size w X) := Lib.hid (by rw [hX]; exact (Below.refl _ _).alloc (Nat.le_refl _) _)
  have x0 : X.cell? ⟨w.heap.size, 0, none⟩ = some (.int .i64 (s.es : Int)) := by rw [hX]; exact World.cell?_alloc_new _ _ _ _
  have x1 : X.cell? ⟨w.heap.size, 1, none⟩ = some (.int .i64 (s.ea : Int)) := by rw [hX]; exact World.cell?_alloc_new _ _ _ _
  have p2 : X.cell? ⟨l, 2, none⟩ = some (.int .i64 (s.n : Int)) := HX.out.cell 2
  have p4 : X.cell? ⟨l, 4, none⟩ = some (.int .i64 (s.fs : Int)) := HX.out.cell 4
  have p5 : X.cell? ⟨l, 5, none⟩ = some (.int .i64 (s.fa : Int)) := HX.out.cell 5
  have p6 : X.cell? ⟨l, 6, none⟩ = some (.int .i64 (s.es : Int)) := HX.out.cell 6
  have f4 : X.frozen? ⟨l, 4, none⟩ = false := HX.out.free 4
  have f5 : X.frozen? ⟨l, 5, none⟩ = false := HX.out.free 5
  have d1 : decide ((s.es : Int) < (s.fs : Int)) = false := decide_eq_false (by omega)
  have d2 : decide ((s.es : Int) > (s.es : Int)) = false := decide_eq_false (by omega)
  have d3 : ((s.ea : Int) != (s.ea : Int)) = false := by simp
  have hn0 : ¬ (s.n : Int) = 0 := by omega
  have w1 : IntKind.i64.wrap ((s.es : Int) - (s.fs : Int)) = (s.es : Int) - (s.fs : Int) := wrap_in (by omega) (by omega)
  have w2 : IntKind.i64.wrap ((s.fa : Int) + ((s.es : Int) - (s.fs : Int))) = (s.fa : Int) + ((s.es : Int) - (s.fs : Int)) := wrap_in (by omega) (by omega)
  have hX' := hX.symm
  clear h hX
  go_enter Try.func49, Try.ntmps49
  go_wp2_with fail
  go_quiet (fail)
  go_wp2_with fail
  go_quiet (fail)
  go_wp2_with fail
  go_quiet (fail)
  go_wp2_with fail
  go_ret
  exact ⟨rfl, cut_fin (HX.out.below (below_drawn X _)) ((Below.kept BX.out (fun k => k = l)).trans (Below.kept (below_drawn X _) (fun k => k = l)) (fun _ _ h => h))⟩
end Go.Proofs.Ytfljbipnjfciaab
