/-
  DevRefuses.
-/
import Derived.Test.YtlnjclabnpenmaaOpsA
namespace Go.Proofs.Ytlnjclabnpenmaa
open Go.RowKit Go.Maps
set_option maxHeartbeats 4000000 in
theorem devRefuses_walk (v : Value) (l : List OpD) (w : World) (hv : Ops w v l) (_hl : l.length ≤ 140737488355328) :
    Calls Try.prog 8 #[v] w fun e w' => e = .returned (.bool true) ∧ Below w.heap.size w w' := by
  have V := Lib.hid hv
  obtain ⟨_, a, cap, rfl, hlc, hcm, hcc⟩ := hv
  unfold maxLen at hcm
  have HC := Lib.hid hcc
  have LV := Lib.hid (lives_any w)
  obtain ⟨n, hn⟩ : ∃ n, n = l.length := ⟨_, rfl⟩
  rw [← hn] at hlc ⊢
  have NN := Lib.hid hn
  obtain ⟨b, hb⟩ : ∃ b, b = w.heap.size := ⟨_, rfl⟩
  rw [← hb] at LV ⊢
  have BB := Lib.hid hb
  clear hcc hn hb
  go_enter Try.func8, Try.ntmps8
  go_wp2_with fail
  refine LV.out.mono ?_
  rintro e w1 ⟨cv1, rfl, hd1, hb1⟩
  have D1 := Lib.hid (And.intro hd1 hb1)
  clear hd1 hb1 LV
  go_wp2_with fail
  go_loopg [4] n (fun g si wr => ∃ (k : Nat) (s : DS) (cv : Value), k ≤ n ∧ k ≤ 60 ∧ g = n - k ∧ si = .int .i64 k ∧ s.ws ≤ k + 1 ∧ Dv b wr (b + 2) b (b + 1) cv s ∧ Below b w wr)
  case atStart => exact ⟨0, liveS, cv1, Nat.zero_le _, Nat.zero_le _, rfl, rfl, Nat.le_refl _, D1.out.1, D1.out.2⟩
  case round =>
    obtain ⟨k, s, cv, hk, hk6, hg, rfl, hws, hd, hb⟩ := hrel
    have R : Aside (gk = n - k ∧ s.ws ≤ k + 1 ∧ Dv b wr (b + 2) b (b + 1) cv s ∧ Below b w wr) := ⟨hg, hws, hd, hb⟩
    clear hg hws hd hb
    by_cases hlt : k < n
    · have hlt' : (k : Int) < (n : Int) := by omega
      by_cases h60 : k < 60
      · have h60' : (k : Int) < 60 := by omega
        obtain ⟨o, ho⟩ : ∃ o, l[k]? = some o := ⟨_, List.getElem?_eq_getElem (by rw [← NN.out]; exact hlt)⟩
        have wb : Below w.heap.size w wr := by rw [← BB.out]; exact R.out.2.2.2
        obtain ⟨hAt, a', cap', e', _, _, hcc⟩ := V.out.below wb
        simp only [Value.slice.injEq] at e'
        obtain ⟨bb, off, ea, hcell⟩ := hcc (by intro e; rw [e] at ho; simp at ho)
        rw [← e'.1] at ea
        subst ea
        have OA := Lib.hid (hAt o (List.mem_of_getElem? ho))
        have cl := fun i u hu => hcell k o ho i u hu
        have MD := Lib.hid (medium_any R.out.2.2.1)
        have CL := Lib.hid cl
        have OO := Lib.hid ho
        have blt := Lib.hid (block_lt_of_cell (cl 0 _ rfl))
        clear hAt hcc hcell cl wb e' ho
        go_wp2_with fail
        refine MD.out.mono ?_
        rintro e w2 ⟨rfl, ho2, hb2⟩
        have O2 := Lib.hid (And.intro ho2 hb2)
        have D2 := Lib.hid (R.out.2.2.1.below hb2)
        have PD := Lib.hid (pending_any D2.out (by have := R.out.2.1; omega))
        clear ho2 hb2 MD
        go_wp2_with fail
        refine PD.out.mono ?_
        rintro e w3 ⟨v3, rfl, ho3, hb3⟩
        have O3 := Lib.hid (And.intro ho3 hb3)
        have D3 := Lib.hid (D2.out.below hb3)
        have CT := Lib.hid (counts_any D3.out)
        clear ho3 hb3 PD
        go_wp2_with fail
        refine CT.out.mono ?_
        rintro e w4 ⟨rfl, hb4⟩
        have B4 := Lib.hid hb4
        obtain ⟨X, hX⟩ : ∃ X, X = w4.alloc (.cells #[.int .i64 s.cr, .int .i64 s.cw, .int .i64 s.cf] 61) := ⟨_, rfl⟩
        have rX : Hid (Below wr.heap.size wr X) := Lib.hid (by
          rw [hX]
          have q1 := O2.out.2
          have q2 := q1.trans (O3.out.2.mono q1.size)
          have q3 := q2.trans (hb4.mono q2.size)
          exact q3.alloc q3.size _)
        have BX4 : Hid (Below w4.heap.size w4 X) := Lib.hid (by rw [hX]; exact (Below.refl _ _).alloc (Nat.le_refl _) _)
        have gX : Hid (X.heap[w4.heap.size]? = some (.cells #[.int .i64 s.cr, .int .i64 s.cw, .int .i64 s.cf] 61 (0, 0))) := Lib.hid (by rw [hX, heap_alloc_new])
        have cx : ∀ i u, o.cells[i]? = some u → X.cell? ⟨bb, off + k * 8 + i, none⟩ = some u := fun i u hu => by rw [rX.out.cell (p := ⟨bb, off + k * 8 + i, none⟩) blt.out]; exact CL.out i u hu
        have x0 : X.cell? ⟨bb, off + k * 8, none⟩ = some (.bool o.two) := cx 0 _ rfl
        have x1 : X.cell? ⟨bb, off + k * 8 + 1, none⟩ = some (.int .i64 o.kind) := cx 1 _ rfl
        have x2 : X.cell? ⟨bb, off + k * 8 + 2, none⟩ = some (.int .i64 o.blk) := cx 2 _ rfl
        have x3 : X.cell? ⟨bb, off + k * 8 + 3, none⟩ = some (.int .i64 o.n) := cx 3 _ rfl
        have x4 : X.cell? ⟨bb, off + k * 8 + 4, none⟩ = some (.int .i64 o.len) := cx 4 _ rfl
        have x5 : X.cell? ⟨bb, off + k * 8 + 5, none⟩ = some (.int .u8 (c8 o.fill)) := cx 5 _ rfl
        have x6 : X.cell? ⟨bb, off + k * 8 + 6, none⟩ = some o.bv := cx 6 _ rfl
        have x7 : X.cell? ⟨bb, off + k * 8 + 7, none⟩ = some o.fv := cx 7 _ rfl
        have DX := Lib.hid ((D3.out.below hb4).below BX4.out)
        have PL : Hid (Calls Try.prog 22 #[.pointer (some ⟨b + 2, 0, none⟩), .agg #[.bool o.two, .int .i64 o.kind, .int .i64 o.blk, .int .i64 o.n, .int .i64 o.len, .int .u8 (c8 o.fill), o.bv, o.fv]] X fun e w' => ∃ s' r, e = .returned (.int .i64 r) ∧ Left b X (b + 2) b (b + 1) cv w' s' ∧ Step s o s' r) := Lib.hid (play_any DX.out (by have := R.out.2.1; omega) o (OA.out.below rX.out))
        have hX' := hX.symm
        clear hb4 CT hX cx
        go_wp2_with fail
        refine PL.out.mono ?_
        rintro e w5 ⟨s5, r, rfl, hl5, hs5⟩
        have bX : Hid (Below b w X) := Lib.hid (R.out.2.2.2.trans (rX.out.mono (by rw [BB.out]; exact R.out.2.2.2.size)))
        have sX : Hid (b ≤ X.heap.size) := Lib.hid (by rw [BB.out]; have := bX.out.size; exact this)
        have b5 : Hid (Below b X w5) := Lib.hid (hl5.below DX.out sX.out)
        have ST := Lib.hid hs5
        have KX : Hid (∀ k, k < X.heap.size → ¬ Foot (b + 2) b (b + 1) cv k → w5.heap[k]? = X.heap[k]?) := Lib.hid (by obtain ⟨cv', _, hk, _⟩ := hl5; exact hk.block)
        obtain ⟨cv5, hd5, hk5, _⟩ := hl5
        have D5 := Lib.hid (And.intro hd5 hk5)
        clear hd5 hk5 hs5 PL hX' x0 x1 x2 x3 x4 x5 x6 x7
        by_cases hr : r = 0
        · have gr : (r == 0) = true := by rw [beq_iff_eq]; exact hr
          go_wp2_with fail
          go_quiet (fail)
          go_wp2_with fail
          go_roundg (n - (k + 1))
          case measure => have := R.out.1; omega
          case rel => exact ⟨k + 1, s5, cv5, by omega, by omega, rfl, by go_num, by have h1 := step_ws ST.out; have h2 := R.out.2.1; omega, D5.out.1.below (below_drawn w5 nq), (bX.out.trans b5.out).trans ((below_drawn w5 nq).mono (Nat.le_trans sX.out b5.out.size))⟩
        · have RF := step_refused ST.out hr
          have RC := step_code ST.out hr
          have wlt : wr.heap.size ≤ w4.heap.size := by have q := O2.out.2.size; have q2 := O3.out.2.size; have q3 := B4.out.size; omega
          have wlt4 : w4.heap.size < X.heap.size := lt_of_heap gX.out
          have nf : ∀ j, wr.heap.size ≤ j → ¬ Foot (b + 2) b (b + 1) cv j := fun j hj hf => by have := (R.out.2.2.1.foot_lt j hf).2; omega
          have q5 : w5.heap[w4.heap.size]? = some (.cells #[.int .i64 s.cr, .int .i64 s.cw, .int .i64 s.cf] 61 (0, 0)) := by rw [KX.out _ wlt4 (nf _ wlt)]; exact gX.out
          have X5 : Kept (Foot (b + 2) b (b + 1) cv) X w5 := D5.out.2
          have m5 : Own wr.heap.size w5 (.slice (some ⟨wr.heap.size, 0, none⟩) (512 * s.n) (512 * s.n)) s.med := by
            have h1 := ((O2.out.1.below O3.out.2).below B4.out).below BX4.out
            exact h1.kept X5 (fun j hj => nf j (h1.lt j hj).1)
          have i5 : OwnI w2.heap.size w5 v3 (blocksOf s.cache) := by
            have h1 : OwnI w2.heap.size X v3 (blocksOf s.cache) := row_kept (row_kept O3.out.1 (Below.kept B4.out (fun _ => False)) (fun _ _ h => h)) (Below.kept BX4.out (fun _ => False)) (fun _ _ h => h)
            exact row_kept h1 X5 (fun j hj => nf j (Nat.le_trans O2.out.2.size (World.ownsRow.lt h1 j hj).1))
          have s5le : s5.ws ≤ 62 := by have h1 := step_ws ST.out; have h2 := R.out.2.1; omega
          have D5' : Hid (∀ W, Below w5.heap.size w5.drew W → Dv b W (b + 2) b (b + 1) cv5 s5) := Lib.hid (fun W hW => D5.out.1.below ⟨hW.os, hW.tape, hW.output, hW.size, hW.block⟩)
          have MED : Hid (∀ W, Below w5.heap.size w5.drew W → Calls Try.prog 21 #[.pointer (some ⟨b + 2, 0, none⟩)] W fun e w' => ∃ u, e = .returned u ∧ Bytes w' u s.med ∧ Below w5.heap.size w5.drew w') := Lib.hid (fun W hW => by
            refine (medium_any (D5'.out W hW)).mono ?_
            rintro e w' ⟨rfl, h1, h2⟩
            rw [RF.1] at h1
            exact ⟨_, rfl, h1.bytes, hW.trans (h2.mono hW.size)⟩)
          have SME : Hid (∀ W u, Bytes W u s.med → Below w5.heap.size w5.drew W → Calls Try.prog 15 #[.slice (some ⟨wr.heap.size, 0, none⟩) (512 * s.n) (512 * s.n), u] W fun e w' => e = .returned (.bool true) ∧ Below w5.heap.size w5.drew w') := Lib.hid (fun W u hu hW => by
            refine (same_any _ u s.med s.med W (m5.below ⟨hW.os, hW.tape, hW.output, hW.size, hW.block⟩).bytes hu).mono ?_
            rintro e w' ⟨rfl, rfl⟩
            exact ⟨by rw [decide_eq_true rfl], hW⟩)
          have PND : Hid (∀ W, Below w5.heap.size w5.drew W → Calls Try.prog 18 #[.pointer (some ⟨b + 2, 0, none⟩)] W fun e w' => ∃ u, e = .returned u ∧ Ints w' u (blocksOf s.cache) ∧ Below w5.heap.size w5.drew w') := Lib.hid (fun W hW => by
            refine (pending_any (D5'.out W hW) (by omega)).mono ?_
            rintro e w' ⟨u, rfl, h1, h2⟩
            rw [RF.2.1] at h1
            exact ⟨_, rfl, h1.ints, hW.trans (h2.mono hW.size)⟩)
          have SMI : Hid (∀ W u, Ints W u (blocksOf s.cache) → Below w5.heap.size w5.drew W → Calls Try.prog 26 #[v3, u] W fun e w' => e = .returned (.bool true) ∧ Below w5.heap.size w5.drew w') := Lib.hid (fun W u hu hW => by
            refine (sameInts_yes v3 u _ W (i5.ints.below ⟨hW.os, hW.tape, hW.output, hW.size, hW.block⟩) hu).mono ?_
            rintro e w' ⟨rfl, h2⟩
            exact ⟨rfl, hW.trans (h2.mono hW.size)⟩)
          have CNT : Hid (∀ W, Below w5.heap.size w5.drew W → Calls Try.prog 28 #[.pointer (some ⟨b + 2, 0, none⟩)] W fun e w' => e = .returned (.agg #[.int .i64 s.cr, .int .i64 s.cw, .int .i64 s.cf]) ∧ Below w5.heap.size w5.drew w') := Lib.hid (fun W hW => by
            refine (counts_any (D5'.out W hW)).mono ?_
            rintro e w' ⟨rfl, h2⟩
            exact ⟨by rw [RF.2.2.1, RF.2.2.2.1, RF.2.2.2.2], hW.trans (h2.mono hW.size)⟩)
          have KS : Hid (∀ W, Below w5.heap.size w5.drew W → W.cell? ⟨w4.heap.size, 0, none⟩ = some (.int .i64 s.cr) ∧ W.cell? ⟨w4.heap.size, 1, none⟩ = some (.int .i64 s.cw) ∧ W.cell? ⟨w4.heap.size, 2, none⟩ = some (.int .i64 s.cf)) := Lib.hid (fun W hW => by
            have h1 : W.heap[w4.heap.size]? = some (.cells #[.int .i64 s.cr, .int .i64 s.cw, .int .i64 s.cf] 61 (0, 0)) := by rw [hW.block _ (lt_of_heap q5)]; exact q5
            exact ⟨by rw [cell_of_row W _ _ _ _ _ h1]; rfl, by rw [cell_of_row W _ _ _ _ _ h1]; rfl, by rw [cell_of_row W _ _ _ _ _ h1]; rfl⟩)
          obtain ⟨a3, n3, cc3, hv3⟩ : ∃ a n c, v3 = .slice a n c := by obtain ⟨a, c, e, _⟩ := i5.ints; exact ⟨a, _, c, e⟩
          have S5 := Lib.hid s5le
          clear RF wlt wlt4 nf q5 X5 m5 i5 s5le hv3
          rcases RC with rfl | rfl | rfl | rfl
          all_goals
            go_wp2_with fail
            go_region_held (fun W : World => W.cell? ⟨w4.heap.size, 0, none⟩ = some (.int .i64 s.cr) ∧ W.cell? ⟨w4.heap.size, 1, none⟩ = some (.int .i64 s.cw) ∧ W.cell? ⟨w4.heap.size, 2, none⟩ = some (.int .i64 s.cf)) (first | exact KS.out _ hB10 | exact KS.out _ hB9 | exact KS.out _ hB8 | exact KS.out _ hB7 | exact KS.out _ hB6 | exact KS.out _ (Below.refl _ _)) (first | (go_at_call 21; refine (MED.out _ (Below.refl _ _)).mono ?_; rintro e w6 ⟨u6, rfl, hO6, hB6⟩) | (go_at_call 15; refine (SME.out _ _ hO6 hB6).mono ?_; rintro e w7 ⟨rfl, hB7⟩) | (go_at_call 18; refine (PND.out _ hB7).mono ?_; rintro e w8 ⟨u8, rfl, hO8, hB8⟩) | (go_at_call 26; refine (SMI.out _ _ hO8 hB8).mono ?_; rintro e w9 ⟨rfl, hB9⟩) | (go_at_call 28; refine (CNT.out _ hB9).mono ?_; rintro e w10 ⟨rfl, hB10⟩))
            have B10 := Lib.hid hB10
            clear hB10 hB9 hB8 hB7 hB6 hO6 hO8 MED SME PND SMI CNT KS
            go_wp2_with fail
            go_roundg (n - (k + 1))
            case measure => have := R.out.1; omega
            case rel => exact ⟨k + 1, s5, cv5, by omega, by omega, rfl, by go_num, by have h1 := step_ws ST.out; have h2 := R.out.2.1; omega, D5'.out _ B10.out, (bX.out.trans b5.out).trans (Below.mono (w := w5) ⟨B10.out.os, B10.out.tape, B10.out.output, B10.out.size, B10.out.block⟩ (Nat.le_trans sX.out b5.out.size))⟩
      · have hge : ¬ (k : Int) < 60 := by omega
        go_wp2_with fail
        go_ret
        exact ⟨rfl, R.out.2.2.2⟩
    · have hge : ¬ (k : Int) < (n : Int) := by omega
      go_wp2_with fail
      go_ret
      exact ⟨rfl, R.out.2.2.2⟩
end Go.Proofs.Ytlnjclabnpenmaa
