/-
  WatchEnough.
-/
import Derived.Test.YtoocpbpdoaplgaaDoorWtM
import Derived.Test.YtoocpbpdoaplgaaDoorWtN
import Derived.Test.YtoocpbpdoaplgaaDoorWtU
import Derived.Test.YtoocpbpdoaplgaaDoorWtV
namespace Go.Proofs.YtoocpbpdoaplgaaDoor
open Go.RowKit
namespace Wt
namespace En
theorem from_in (hi lo back : Int) (h0 : 0 ≤ lo) (h1 : lo ≤ hi) (h2 : hi ≤ 1152921504606846976) : lo ≤ wrap64 (hi - wrap64 ((IntKind.u64.wrap back).tmod (hi - lo + 1))) ∧ wrap64 (hi - wrap64 ((IntKind.u64.wrap back).tmod (hi - lo + 1))) ≤ hi := by
  have u0 : 0 ≤ IntKind.u64.wrap back := by rw [IntKind.wrap_u64]; omega
  have r0 := Int.tmod_nonneg (hi - lo + 1) u0
  have r1 := Int.tmod_lt_of_pos (IntKind.u64.wrap back) (show 0 < hi - lo + 1 by omega)
  generalize (IntKind.u64.wrap back).tmod (hi - lo + 1) = r at *
  unfold wrap64
  omega
theorem most_in (most : Int) : 1 ≤ wrap64 (wrap64 ((IntKind.u64.wrap most).tmod 100) + 1) ∧ wrap64 (wrap64 ((IntKind.u64.wrap most).tmod 100) + 1) ≤ 100 := by
  have u0 : 0 ≤ IntKind.u64.wrap most := by rw [IntKind.wrap_u64]; omega
  have r0 := Int.tmod_nonneg 100 u0
  have r1 := Int.tmod_lt_of_pos (IntKind.u64.wrap most) (show (0 : Int) < 100 by decide)
  generalize (IntKind.u64.wrap most).tmod 100 = r at *
  unfold wrap64
  omega
theorem root_path : L.splitE ⟨#[47]⟩ = 0 := by kernel_rfl
theorem th_mem {x kind : Int} {path : ByteArray} (A : List Ev) : ∀ out : List ByteArray, ∀ t ∈ A.foldl (thS x kind path) out, t ∈ out ∨ ∃ e ∈ A, t = tx e := by
  induction A with
  | nil => exact fun out t h => .inl h
  | cons a r ih =>
    intro out t h
    rcases ih _ t h with q | ⟨e, he, q⟩
    · unfold thS at q
      split at q
      · rcases List.mem_append.1 q with c | c
        · exact .inl (List.mem_filter.1 c).1
        · split at c
          · simp at c
          · exact .inr ⟨a, by simp, by simpa using c⟩
      · exact .inl q
    · exact .inr ⟨e, by simp [he], q⟩
theorem th_size {f : Int} {s : St} {A : List Ev} (h : Pu f s A) (x kind : Int) (path : ByteArray) : ∀ t ∈ thL x kind path A, t.size ≤ 281474976710656 := fun t ht => by
  rcases th_mem A [] t ht with q | ⟨e, he, rfl⟩
  · simp at q
  · have := right_sizes (h.r e he).2.2
    rw [tx_size]; omega
set_option maxHeartbeats 32000000 in
set_option maxRecDepth 100000 in
theorem enough_walk (m : Ev) (u : Value) (ps : List (List Ev)) (back kind0 : Int) (path : ByteArray) (most : Int) (w : World) (hG : Gl m w) (hN : Nst w u ps) :
    Calls Tryd.prog 7 #[u, .int .i64 back, .int .i64 kind0, .string path, .int .i64 most] w fun e w' => e = .returned (.bool true) ∧ Below w.heap.size w w' := by
  have KN := Lib.hid (known_any m w hG)
  have PU : Hid (∀ W : World, Below w.heap.size w W → Gl m W ∧ Calls Tryd.prog 10 #[.int .i64 0, u] W fun e w' => (e = .returned (.tuple #[.pointer none, .bool true]) ∧ Below W.heap.size W w') ∨
      ∃ gp g v vL s A, e = .returned (.tuple #[.pointer (some ⟨gp, 0, none⟩), .bool true]) ∧ Pd W w' gp g v vL (max 0 0) s A ∧ s.hi ≤ 576460752303423888 ∧ A.length ≤ 120000) := Lib.hid fun W hb => ⟨hG.below hb, pushed_any m 0 u ps W (hG.below hb) (hN.below hb) ⟨by decide, by decide⟩⟩
  obtain ⟨f, hf⟩ : ∃ f : Int, f = max 0 0 := ⟨_, rfl⟩
  rw [← hf] at PU
  clear hG hN hf
  go_enter Tryd.func7, Tryd.ntmps7
  go_wp2_with fail
  refine KN.out.mono ?_
  rintro e w1 ⟨rfl, hb1⟩
  have B1 := Lib.hid hb1
  have P1 := Lib.hid (PU.out w1 hb1)
  clear KN PU hb1
  go_wp2_with fail
  refine P1.out.2.mono ?_
  rintro e w2 (⟨rfl, hb2⟩ | ⟨gp, g, v, vL, s, A, rfl, hp, hhi, hlA⟩)
  · have B2 := Lib.hid (B1.out.trans (hb2.mono B1.out.size))
    clear hb2
    go_wp2_with fail
    go_ret
    exact ⟨rfl, B2.out⟩
  have PD := Lib.hid hp
  have B2 := Lib.hid (B1.out.trans (hp.h.be.mono B1.out.size))
  have G2 : Hid (∀ W : World, Below w2.heap.size w2 W → Pd w1 W gp g v vL f s A ∧ Gl m W ∧ Below w.heap.size w W) := Lib.hid fun W hb => ⟨PD.out.below hb, (P1.out.1.below (PD.out.h.be.trans (hb.mono PD.out.h.be.size))), B2.out.trans (hb.mono B2.out.size)⟩
  have G1 := Lib.hid P1.out.1
  obtain ⟨lo, hi, es⟩ := s
  obtain ⟨b0, b1, b2⟩ := hp.h.ok.b
  simp only at b0 b1 b2 hhi
  have c0 : w2.drew.cell? ⟨gp, 0, none⟩ = some (.pointer (some ⟨g, 0, none⟩)) := hp.c0
  have LW : Hid (∀ W : World, Below w2.heap.size w2 W → (Calls Tryd.prog 11 #[.pointer (some ⟨g, 0, none⟩)] W fun e w' => e = .returned (.int .i64 lo) ∧ w' = W) ∧ (Calls Tryd.prog 12 #[.pointer (some ⟨g, 0, none⟩)] W fun e w' => e = .returned (.int .i64 hi) ∧ w' = W)) := Lib.hid fun W hb => ⟨low_any W g v _ (PD.out.below hb).h.h, high_any W g v _ (PD.out.below hb).h.h⟩
  have BD := Lib.hid (below_drawn w2 1)
  clear hp P1 B1
  go_wp2_with fail
  go_region_held3 (fun W : World => W.cell? ⟨gp, 0, none⟩ = some (.pointer (some ⟨g, 0, none⟩))) (first | assumption | go_keep) (first
    | (go_at_call 11
       refine (LW.out _ BD.out).1.mono ?_
       rintro e x1 ⟨rfl, rfl⟩)
    | (go_at_call 12
       refine (LW.out _ BD.out).2.mono ?_
       rintro e x2 ⟨rfl, rfl⟩))
  clear c0
  have PA0 := Lib.hid (L.path_any path (w2.drewN 1) (G2.out _ BD.out).2.1.hm)
  go_wp2_with fail
  have FI := from_in hi lo back b0 b1 b2
  have MI := most_in most
  obtain ⟨fr, hfr⟩ : ∃ fr, fr = wrap64 (hi - wrap64 ((IntKind.u64.wrap back).tmod (hi - lo + 1))) := ⟨_, rfl⟩
  obtain ⟨mo, hmo⟩ : ∃ mo, mo = wrap64 (wrap64 ((IntKind.u64.wrap most).tmod 100) + 1) := ⟨_, rfl⟩
  rw [← hfr] at FI ⊢
  rw [← hmo] at MI ⊢
  clear hfr hmo
  generalize wrap64 ((IntKind.u64.wrap back).tmod (hi - lo + 1)) = q1
  generalize (IntKind.u64.wrap back).tmod (hi - lo + 1) = q2
  generalize IntKind.u64.wrap back = q3
  generalize wrap64 ((IntKind.u64.wrap most).tmod 100) = q4
  generalize (IntKind.u64.wrap most).tmod 100 = q5
  generalize IntKind.u64.wrap most = q6
  obtain ⟨kind, hkind⟩ : ∃ kd, kd = wrap64 ((IntKind.u64.wrap kind0).tmod 5) := ⟨_, rfl⟩
  rw [← hkind]
  clear hkind
  generalize (IntKind.u64.wrap kind0).tmod 5 = q9
  generalize IntKind.u64.wrap kind0 = q10
  generalize hi - lo + 1 = q7
  generalize hi - lo = q8
  obtain ⟨f0, f1⟩ := FI
  refine PA0.out.mono ?_
  rintro e w5 ⟨rfl, hb5⟩
  have W5 : Hid (Below w2.heap.size w2 w5) := Lib.hid ((below_drawn w2 1).trans hb5)
  clear hb5 PA0 BD LW
  by_cases hp : L.splitE path = 0
  · have HQ := Lib.hid hp
    rw [hp]
    clear hp
    have TH : Hid (∀ (x : Int) (W : World), Below w2.heap.size w2 W → Calls Tryd.prog 25 #[.pointer (some ⟨gp, 0, none⟩), .int .i64 x, .int .i64 kind, .string path] W fun e w' => ∃ a n c, e = .returned (.slice a n c) ∧ OwnR kT W.heap.size w' (.slice a n c) (thL x kind path A) ∧ Below W.heap.size W w') := Lib.hid fun x W hb => there_any m w1 W gp g v vL f ⟨lo, hi, es⟩ A G1.out (G2.out W hb).1 hlA x kind path
    go_wp2_with fail
    refine (TH.out fr w5 W5.out).mono ?_
    rintro e w6 ⟨a6, n6, c6, rfl, ho6, hb6⟩
    have W6 : Hid (Below w2.heap.size w2 w6 ∧ Row kT w6 (.slice a6 n6 c6) (thL fr kind path A)) := Lib.hid ⟨W5.out.trans (hb6.mono W5.out.size), ho6.row okT⟩
    clear ho6 hb6
    have PC := Lib.hid (pieces_any m w1 w6 gp g v vL f ⟨lo, hi, es⟩ A G1.out (G2.out w6 W6.out.1).1 fr path mo ⟨f0, f1⟩ MI)
    rw [decide_eq_true HQ.out] at PC
    go_wp2_with fail
    refine PC.out.mono ?_
    rintro e w7 ⟨a7, n7, c7, rfl, hb7, ho7⟩
    have W7 : Hid (Below w2.heap.size w2 w7 ∧ Row kT w7 (.slice a6 n6 c6) (thL fr kind path A) ∧ Row kE w7 (.slice a7 n7 c7) (inL ⟨lo, hi, es⟩ fr path)) := Lib.hid ⟨W6.out.1.trans (hb7.mono W6.out.1.size), W6.out.2.below hb7, (ho7 HQ.out).row okE⟩
    clear hb7 ho7 PC W6
    obtain ⟨I, hI⟩ : ∃ I, I = inL ⟨lo, hi, es⟩ fr path := ⟨_, rfl⟩
    rw [← hI] at W7
    have IL : Hid (I.length ≤ 128 ∧ n7 = I.length ∧ ∀ e ∈ I, e.n.size ≤ 32) := Lib.hid ⟨by
      rw [hI, inL_eq PD.out.h.ok]
      exact Nat.le_trans (List.length_filter_le _ _) PD.out.h.ok.n, by obtain ⟨q1, q2, e, _⟩ := W7.out.2.2.len; simp only [Value.slice.injEq] at e; exact e.2.1, fun e he => by
      rw [hI, PD.out.pu.inL f0] at he
      exact (right_sizes (PD.out.pu.r e (List.mem_filter.1 he).1).2.2).2⟩
    have BH := Lib.hid (behind_any m I (.slice a7 n7 c7) w7 (G2.out w7 W7.out.1).2.1 W7.out.2.2 (by have := IL.out.1; omega))
    go_wp2_with fail
    refine BH.out.mono ?_
    rintro e w8 ⟨a8, n8, c8, rfl, ho8, hb8⟩
    obtain ⟨gb, rfl, hc8⟩ : ∃ gb, a8 = some ⟨gb, 0, none⟩ ∧ n7 ≤ c8 := by
      obtain ⟨h1, ⟨hv, hn⟩ | ⟨gb, cap', cur, hv, h2, h3, h4, h5⟩⟩ := ho8
      · simp at hn
      · simp only [Value.slice.injEq] at hv
        obtain ⟨e1, e2, e3⟩ := hv
        rw [List.length_append, ← IL.out.2.1] at h4
        exact ⟨gb, e1, by omega⟩
    have hc8' : (n7 : Int) ≤ (c8 : Int) := by omega
    have hn7' : (0 : Int) ≤ (n7 : Int) := by omega
    have W8 : Hid (Below w2.heap.size w2 w8 ∧ Row kT w8 (.slice a6 n6 c6) (thL fr kind path A) ∧ Row kE w8 (.slice (some ⟨gb, 0, none⟩) n7 c8) I) := Lib.hid ⟨W7.out.1.trans (hb8.mono W7.out.1.size), W7.out.2.1.below hb8, by
      have h := OwnR.take okE ho8 n7 (by rw [List.length_append, ← IL.out.2.1]; omega)
      rw [IL.out.2.1, List.take_left] at h
      rw [← IL.out.2.1] at h
      exact h.row okE⟩
    clear ho8 hb8 BH W7
    have RP := Lib.hid (replay_any kind path (.slice a6 n6 c6) (.slice (some ⟨gb, 0, none⟩) n7 c8) _ _ w8 (G2.out w8 W8.out.1).2.1.hm W8.out.2.1 W8.out.2.2 (th_size PD.out.pu fr kind path) (fun e he => by have := IL.out.2.2 e he; omega) (by
      have h1 := thL_len fr kind path A A.length (Nat.le_refl _)
      rw [List.take_length] at h1
      have h2 := IL.out.1
      omega))
    go_wp2_with fail
    refine RP.out.mono ?_
    rintro e w9 ⟨a9, n9, c9, F, rfl, ho9, hr9, hb9⟩
    have W9 : Hid (Below w2.heap.size w2 w9 ∧ Row kT w9 (.slice a9 n9 c9) F ∧ Ri F (thL hi kind path A)) := Lib.hid ⟨W8.out.1.trans (hb9.mono W8.out.1.size), ho9.row okT, hr9.1, fun t => (hr9.2 t).trans (by rw [hI]; exact PD.out.pu.enough f0 kind path t)⟩
    clear ho9 hr9 hb9 RP W8
    go_wp2_with fail
    refine (TH.out hi w9 W9.out.1).mono ?_
    rintro e w10 ⟨a10, n10, c10, rfl, ho10, hb10⟩
    have W10 : Hid (Below w2.heap.size w2 w10 ∧ Row kT w10 (.slice a9 n9 c9) F ∧ Row kT w10 (.slice a10 n10 c10) (thL hi kind path A) ∧ Ri F (thL hi kind path A)) := Lib.hid ⟨W9.out.1.trans (hb10.mono W9.out.1.size), W9.out.2.1.below hb10, ho10.row okT, W9.out.2.2⟩
    clear ho10 hb10 W9
    have SS := Lib.hid (sameSet_yes _ _ _ _ w10 W10.out.2.1 W10.out.2.2.1 W10.out.2.2.2 (W10.out.2.2.2.len (thL_nodup _ _ _ _)))
    go_wp2_with fail
    refine SS.out.mono ?_
    rintro e w11 ⟨rfl, hb11⟩
    have W11 := Lib.hid ((G2.out w10 W10.out.1).2.2.trans (hb11.mono (G2.out w10 W10.out.1).2.2.size))
    clear hb11 SS
    go_wp2_with fail
    go_ret
    exact ⟨rfl, W11.out⟩
  · have g3 : (L.splitE path == 0) = false := by rw [beq_eq_false_iff_ne]; exact hp
    have HQ := Lib.hid root_path
    clear hp
    have TH : Hid (∀ (x : Int) (W : World), Below w2.heap.size w2 W → Calls Tryd.prog 25 #[.pointer (some ⟨gp, 0, none⟩), .int .i64 x, .int .i64 kind, .string ⟨#[47]⟩] W fun e w' => ∃ a n c, e = .returned (.slice a n c) ∧ OwnR kT W.heap.size w' (.slice a n c) (thL x kind ⟨#[47]⟩ A) ∧ Below W.heap.size W w') := Lib.hid fun x W hb => there_any m w1 W gp g v vL f ⟨lo, hi, es⟩ A G1.out (G2.out W hb).1 hlA x kind ⟨#[47]⟩
    go_wp2_with fail
    refine (TH.out fr w5 W5.out).mono ?_
    rintro e w6 ⟨a6, n6, c6, rfl, ho6, hb6⟩
    have W6 : Hid (Below w2.heap.size w2 w6 ∧ Row kT w6 (.slice a6 n6 c6) (thL fr kind ⟨#[47]⟩ A)) := Lib.hid ⟨W5.out.trans (hb6.mono W5.out.size), ho6.row okT⟩
    clear ho6 hb6
    have PC := Lib.hid (pieces_any m w1 w6 gp g v vL f ⟨lo, hi, es⟩ A G1.out (G2.out w6 W6.out.1).1 fr ⟨#[47]⟩ mo ⟨f0, f1⟩ MI)
    rw [decide_eq_true HQ.out] at PC
    go_wp2_with fail
    refine PC.out.mono ?_
    rintro e w7 ⟨a7, n7, c7, rfl, hb7, ho7⟩
    have W7 : Hid (Below w2.heap.size w2 w7 ∧ Row kT w7 (.slice a6 n6 c6) (thL fr kind ⟨#[47]⟩ A) ∧ Row kE w7 (.slice a7 n7 c7) (inL ⟨lo, hi, es⟩ fr ⟨#[47]⟩)) := Lib.hid ⟨W6.out.1.trans (hb7.mono W6.out.1.size), W6.out.2.below hb7, (ho7 HQ.out).row okE⟩
    clear hb7 ho7 PC W6
    obtain ⟨I, hI⟩ : ∃ I, I = inL ⟨lo, hi, es⟩ fr ⟨#[47]⟩ := ⟨_, rfl⟩
    rw [← hI] at W7
    have IL : Hid (I.length ≤ 128 ∧ n7 = I.length ∧ ∀ e ∈ I, e.n.size ≤ 32) := Lib.hid ⟨by
      rw [hI, inL_eq PD.out.h.ok]
      exact Nat.le_trans (List.length_filter_le _ _) PD.out.h.ok.n, by obtain ⟨q1, q2, e, _⟩ := W7.out.2.2.len; simp only [Value.slice.injEq] at e; exact e.2.1, fun e he => by
      rw [hI, PD.out.pu.inL f0] at he
      exact (right_sizes (PD.out.pu.r e (List.mem_filter.1 he).1).2.2).2⟩
    have BH := Lib.hid (behind_any m I (.slice a7 n7 c7) w7 (G2.out w7 W7.out.1).2.1 W7.out.2.2 (by have := IL.out.1; omega))
    go_wp2_with fail
    refine BH.out.mono ?_
    rintro e w8 ⟨a8, n8, c8, rfl, ho8, hb8⟩
    obtain ⟨gb, rfl, hc8⟩ : ∃ gb, a8 = some ⟨gb, 0, none⟩ ∧ n7 ≤ c8 := by
      obtain ⟨h1, ⟨hv, hn⟩ | ⟨gb, cap', cur, hv, h2, h3, h4, h5⟩⟩ := ho8
      · simp at hn
      · simp only [Value.slice.injEq] at hv
        obtain ⟨e1, e2, e3⟩ := hv
        rw [List.length_append, ← IL.out.2.1] at h4
        exact ⟨gb, e1, by omega⟩
    have hc8' : (n7 : Int) ≤ (c8 : Int) := by omega
    have hn7' : (0 : Int) ≤ (n7 : Int) := by omega
    have W8 : Hid (Below w2.heap.size w2 w8 ∧ Row kT w8 (.slice a6 n6 c6) (thL fr kind ⟨#[47]⟩ A) ∧ Row kE w8 (.slice (some ⟨gb, 0, none⟩) n7 c8) I) := Lib.hid ⟨W7.out.1.trans (hb8.mono W7.out.1.size), W7.out.2.1.below hb8, by
      have h := OwnR.take okE ho8 n7 (by rw [List.length_append, ← IL.out.2.1]; omega)
      rw [IL.out.2.1, List.take_left] at h
      rw [← IL.out.2.1] at h
      exact h.row okE⟩
    clear ho8 hb8 BH W7
    have RP := Lib.hid (replay_any kind ⟨#[47]⟩ (.slice a6 n6 c6) (.slice (some ⟨gb, 0, none⟩) n7 c8) _ _ w8 (G2.out w8 W8.out.1).2.1.hm W8.out.2.1 W8.out.2.2 (th_size PD.out.pu fr kind ⟨#[47]⟩) (fun e he => by have := IL.out.2.2 e he; omega) (by
      have h1 := thL_len fr kind ⟨#[47]⟩ A A.length (Nat.le_refl _)
      rw [List.take_length] at h1
      have h2 := IL.out.1
      omega))
    go_wp2_with fail
    refine RP.out.mono ?_
    rintro e w9 ⟨a9, n9, c9, F, rfl, ho9, hr9, hb9⟩
    have W9 : Hid (Below w2.heap.size w2 w9 ∧ Row kT w9 (.slice a9 n9 c9) F ∧ Ri F (thL hi kind ⟨#[47]⟩ A)) := Lib.hid ⟨W8.out.1.trans (hb9.mono W8.out.1.size), ho9.row okT, hr9.1, fun t => (hr9.2 t).trans (by rw [hI]; exact PD.out.pu.enough f0 kind ⟨#[47]⟩ t)⟩
    clear ho9 hr9 hb9 RP W8
    go_wp2_with fail
    refine (TH.out hi w9 W9.out.1).mono ?_
    rintro e w10 ⟨a10, n10, c10, rfl, ho10, hb10⟩
    have W10 : Hid (Below w2.heap.size w2 w10 ∧ Row kT w10 (.slice a9 n9 c9) F ∧ Row kT w10 (.slice a10 n10 c10) (thL hi kind ⟨#[47]⟩ A) ∧ Ri F (thL hi kind ⟨#[47]⟩ A)) := Lib.hid ⟨W9.out.1.trans (hb10.mono W9.out.1.size), W9.out.2.1.below hb10, ho10.row okT, W9.out.2.2⟩
    clear ho10 hb10 W9
    have SS := Lib.hid (sameSet_yes _ _ _ _ w10 W10.out.2.1 W10.out.2.2.1 W10.out.2.2.2 (W10.out.2.2.2.len (thL_nodup _ _ _ _)))
    go_wp2_with fail
    refine SS.out.mono ?_
    rintro e w11 ⟨rfl, hb11⟩
    have W11 := Lib.hid ((G2.out w10 W10.out.1).2.2.trans (hb11.mono (G2.out w10 W10.out.1).2.2.size))
    clear hb11 SS
    go_wp2_with fail
    go_ret
    exact ⟨rfl, W11.out⟩
end En
end Wt
end Go.Proofs.YtoocpbpdoaplgaaDoor
