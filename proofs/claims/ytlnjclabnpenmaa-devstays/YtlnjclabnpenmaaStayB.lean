/-
  DevStays, one half.
-/
import Derived.Test.YtlnjclabnpenmaaStayH
namespace Go.Proofs.Ytlnjclabnpenmaa
open Go.RowKit Go.Maps
set_option maxHeartbeats 8000000 in
theorem devStays_b (v : Value) (l : List OpD) (v' : Value) (l' : List OpD) (at0 : Int) (w : World) (hv : Ops w v l) (_hl : l.length ≤ 140737488355328) (hv' : Ops w v' l') (_hl' : l'.length ≤ 140737488355328) (hN : 400 < l.length) :
    Calls Try.prog 5 #[v, v', .int .i64 at0] w fun e w' => e = .returned (.bool true) ∧ Below w.heap.size w w' := by
  have V := Lib.hid hv
  have V' := Lib.hid hv'
  obtain ⟨_, a, cap, rfl, hlc, hcm, _⟩ := hv
  obtain ⟨_, a', cap', rfl, hlc', hcm', _⟩ := hv'
  unfold maxLen at hcm hcm'
  have LV := Lib.hid (lives_any w)
  obtain ⟨n, hn⟩ : ∃ n, n = l.length := ⟨_, rfl⟩
  obtain ⟨n', hn'⟩ : ∃ n', n' = l'.length := ⟨_, rfl⟩
  rw [← hn] at hlc V ⊢
  rw [← hn'] at hlc' V' ⊢
  have NN := Lib.hid hn
  have NN' := Lib.hid hn'
  obtain ⟨b, hb⟩ : ∃ b, b = w.heap.size := ⟨_, rfl⟩
  rw [← hb] at LV ⊢
  have BB := Lib.hid hb
  obtain ⟨q, hq⟩ : ∃ q : Nat, q = (at0 % 64).toNat := ⟨_, rfl⟩
  have hq64 : q < 64 := by omega
  have hand : bits BinOp.and IntKind.i64 at0 63 = (q : Int) := by rw [and_63, hq]
  rw [← NN.out] at hN
  clear hn hn' hb hq
  go_enter Try.func5, Try.ntmps5
  go_wp2_with fail
  refine LV.out.mono ?_
  rintro e w1 ⟨cv1, rfl, hd1, hb1⟩
  have D1 := Lib.hid (And.intro hd1 hb1)
  clear hd1 hb1 LV
  go_wp2_with fail
  go_loopg [8] n (fun g si wr => ∃ (k : Nat) (s : DS) (cv : Value), k ≤ n ∧ k ≤ 400 ∧ g = n - k ∧ si = .int .i64 k ∧ s.ws ≤ k + 1 ∧ s.n = 64 ∧ Dv b wr (b + 2) b (b + 1) cv s ∧ Below b w wr)
  case atStart => exact ⟨0, liveS, cv1, Nat.zero_le _, Nat.zero_le _, rfl, rfl, Nat.le_refl _, rfl, D1.out.1, D1.out.2⟩
  case round =>
    obtain ⟨k, s, cv, hk, hk6, hg, rfl, hws, hsn, hd, hb⟩ := hrel
    have R : Aside (gk = n - k ∧ s.ws ≤ k + 1 ∧ s.n = 64 ∧ Dv b wr (b + 2) b (b + 1) cv s ∧ Below b w wr) := ⟨hg, hws, hsn, hd, hb⟩
    have wb : Hid (Below w.heap.size w wr) := Lib.hid (by rw [← BB.out]; exact hb)
    have sb : Hid (b ≤ wr.heap.size) := Lib.hid (by rw [BB.out]; exact hb.size)
    clear hg hws hd hb hsn
    by_cases hin : k < n ∧ k < 400
    · have hlt' : (k : Int) < (n : Int) := by omega
      have h60' : (k : Int) < 400 := by omega
      obtain ⟨o, ho⟩ : ∃ o, l[k]? = some o := ⟨_, List.getElem?_eq_getElem (by rw [← NN.out]; exact hin.1)⟩
      obtain ⟨hAt, bb, off, rfl, _, cx⟩ := ops_at (V.out.below wb.out) ho
      have PL := Lib.hid (play_lit R.out.2.2.2.1 (by have := R.out.2.1; omega) o hAt)
      have x0 := cx 0 _ rfl
      have x1 := cx 1 _ rfl
      have x2 := cx 2 _ rfl
      have x3 := cx 3 _ rfl
      have x4 := cx 4 _ rfl
      have x5 := cx 5 _ rfl
      have x6 := cx 6 _ rfl
      have x7 := cx 7 _ rfl
      rw [Nat.add_zero] at x0
      clear hAt cx ho
      go_wp2_with fail
      refine PL.out.mono ?_
      rintro e w5 ⟨s5, r, rfl, hl5, hs5⟩
      have b5 : Hid (Below b wr w5) := Lib.hid (hl5.below R.out.2.2.2.1 sb.out)
      have ST := Lib.hid hs5
      obtain ⟨cv5, hd5, hk5, _⟩ := hl5
      have D5 := Lib.hid hd5
      clear hd5 hk5 hs5 PL x0 x1 x2 x3 x4 x5 x6 x7
      go_wp2_with fail
      go_roundg (n - (k + 1))
      case measure => have := R.out.1; omega
      case rel => exact ⟨k + 1, s5, cv5, by omega, by omega, rfl, by go_num, by have h1 := step_ws ST.out; have h2 := R.out.2.1; omega, by rw [step_n ST.out]; exact R.out.2.2.1, D5.out, R.out.2.2.2.2.trans b5.out⟩
    · have hlt' : (k : Int) < (n : Int) := by omega
      have h60' : ¬ (k : Int) < 400 := by omega
      clear hin
      have DN := Lib.hid (down_any R.out.2.2.2.1)
      cases hdn : s.down with
      | false =>
        rw [hdn] at DN
        have DS1 : Hid (Dv b wr (b + 2) b (b + 1) cv s ∧ s.ws ≤ 401 ∧ s.n = 64 ∧ s.down = false ∧ Below b w wr) := Lib.hid ⟨R.out.2.2.2.1, by have := R.out.2.1; omega, R.out.2.2.1, hdn, R.out.2.2.2.2⟩
        obtain ⟨S1, hS1⟩ : ∃ S1, S1 = s := ⟨_, rfl⟩
        obtain ⟨cvS, hcS⟩ : ∃ cvS, cvS = cv := ⟨_, rfl⟩
        rw [← hS1, ← hcS] at DS1
        clear hdn hS1 hcS
        go_wp2_with fail
        refine DN.out.mono ?_
        rintro e w2 ⟨rfl, rfl⟩
        clear DN
        have RD := Lib.hid (read_any DS1.out.1 (q : Int))
        have er : rdD S1 (q : Int) = ({ S1 with cr := up S1.cr }, rdB S1 q, 0) := by
          unfold rdD
          rw [if_neg (by unfold hasB; rw [DS1.out.2.2.1]; simp; omega), if_neg (by rw [DS1.out.2.2.2.1]; exact Bool.noConfusion), Int.toNat_natCast]
        rw [er] at RD
        obtain ⟨RR, hRR⟩ : ∃ RR, RR = rdB S1 q := ⟨_, rfl⟩
        rw [← hRR] at RD
        have ERR := Lib.hid hRR
        obtain ⟨s2, hs2⟩ : ∃ s2 : DS, s2 = { S1 with cr := up S1.cr } := ⟨_, rfl⟩
        rw [← hs2] at RD
        have S2 : Hid (s2.ws ≤ 401 ∧ s2.n = 64 ∧ rdB s2 q = RR) := Lib.hid (by rw [hs2, hRR]; exact ⟨DS1.out.2.1, DS1.out.2.2.1, rfl⟩)
        clear er hs2 hRR
        go_wp2_with fail
        refine RD.out.mono ?_
        rintro e w3 ⟨vR, rfl, hoR, hdR, hkR⟩
        have OR : Hid (Own 0 w3 vR RR ∧ Dv b w3 (b + 2) b (b + 1) cvS s2 ∧ Below b w w3) := Lib.hid ⟨hoR.mono (Nat.zero_le _), hdR, DS1.out.2.2.2.2.trans (hkR.below (by rw [BB.out]; exact DS1.out.2.2.2.2.size) (fun x hx => by omega))⟩
        have FL := Lib.hid (flush_any hdR (by have := S2.out.1; omega))
        clear hoR hdR hkR RD
        by_cases ha : (actD s2).2 = 0
        · have EF : flD s2 = ({ (actD s2).1 with med := sets (fun _ => (1, 0)) 0 s2.cache s2.med, cache := [], cf := up s2.cf }, 0) := by unfold flD; rw [if_neg (by rw [ha]; decide)]
          have SF0 : Hid ((flD s2).1.ws ≤ 402 ∧ (flD s2).1.n = 64 ∧ Quiet (flD s2).1 q RR) := Lib.hid (by
            rw [EF]
            refine ⟨?_, ?_, ?_, fun x hx => by cases hx⟩
            · show (actD s2).1.ws ≤ 402
              rw [(act_same s2).2.2.2.1]; have := S2.out.1; omega
            · show (actD s2).1.n = 64
              rw [(act_same s2).2.2.2.2.1]; exact S2.out.2.1
            · show raw (sets _ 0 s2.cache s2.med) q = RR
              rw [flush_read OR.out.2.1.fit, S2.out.2.2])
          have E0 : (flD s2).2 = 0 := by rw [EF]
          rw [E0] at FL
          obtain ⟨s3F, hs3⟩ : ∃ s3F, s3F = (flD s2).1 := ⟨_, rfl⟩
          rw [← hs3] at FL SF0
          have SF := SF0
          clear SF0 EF E0 hs3 ha
          go_wp2_with fail
          refine FL.out.mono ?_
          rintro e w4 ⟨cvF, rfl, hdF, hkF, _⟩
          have DF : Hid (Dv b w4 (b + 2) b (b + 1) cvF s3F ∧ Own 0 w4 vR RR ∧ Below b w w4) := Lib.hid ⟨hdF, OR.out.1.kept hkF (fun k hk h => OR.out.2.1.bytes_ne OR.out.1 k hk (by rcases h with h | h | h; exact .inl h; exact .inr (.inl h); exact .inr (.inr (.inl h)))), OR.out.2.2.trans (hkF.below (by rw [BB.out]; exact OR.out.2.2.size) (fun x hx => by omega))⟩
          clear hdF hkF FL
          go_wp2_with fail
          go_loopg [11] n' (fun g si wr => ∃ (k2 : Nat) (s3 : DS) (cv3 : Value), k2 ≤ n' ∧ k2 ≤ 400 ∧ g = n' - k2 ∧ si = .int .i64 k2 ∧ s3.ws ≤ k2 + 402 ∧ s3.n = 64 ∧ Quiet s3 q RR ∧ Dv b wr (b + 2) b (b + 1) cv3 s3 ∧ Own 0 wr vR RR ∧ Below b w wr)
          case atStart => exact ⟨0, _, cvF, Nat.zero_le _, Nat.zero_le _, rfl, rfl, SF.out.1, SF.out.2.1, SF.out.2.2, DF.out.1, DF.out.2.1, DF.out.2.2⟩
          case round =>
            obtain ⟨k2, s3, cv3, hk2, hk26, hg2, rfl, hws2, hsn2, hqq, hd3, hvr, hb3⟩ := hrel
            have R2 : Aside (gk = n' - k2 ∧ s3.ws ≤ k2 + 402 ∧ s3.n = 64 ∧ Quiet s3 q RR ∧ Dv b wr (b + 2) b (b + 1) cv3 s3 ∧ Own 0 wr vR RR ∧ Below b w wr) := ⟨hg2, hws2, hsn2, hqq, hd3, hvr, hb3⟩
            have wb2 : Hid (Below w.heap.size w wr) := Lib.hid (by rw [← BB.out]; exact hb3)
            have sb2 : Hid (b ≤ wr.heap.size) := Lib.hid (by rw [BB.out]; exact hb3.size)
            have O2x := Lib.hid hvr
            clear hg2 hws2 hsn2 hqq hd3 hvr hb3
            by_cases hin1 : k2 < n'
            · have hlt2 : (k2 : Int) < (n' : Int) := by omega
              by_cases hin2 : k2 < 400
              · have h602 : (k2 : Int) < 400 := by omega
                obtain ⟨o, ho⟩ : ∃ o, l'[k2]? = some o := ⟨_, List.getElem?_eq_getElem (by rw [← NN'.out]; exact hin1)⟩
                obtain ⟨hAt, bb2, off2, rfl, bblt, cx⟩ := ops_at (V'.out.below wb2.out) ho
                have x0 := cx 0 _ rfl
                have x1 := cx 1 _ rfl
                have x2 := cx 2 _ rfl
                have x3 := cx 3 _ rfl
                have x4 := cx 4 _ rfl
                have x5 := cx 5 _ rfl
                have x6 : wr.cell? ⟨bb2, off2 + k2 * 8 + 6, none⟩ = some o.bv := cx 6 _ rfl
                have x7 : wr.cell? ⟨bb2, off2 + k2 * 8 + 7, none⟩ = some o.fv := cx 7 _ rfl
                rw [Nat.add_zero] at x0
                obtain ⟨X, hX⟩ : ∃ X, X = wr.alloc (.cells #[.bool o.two, .int .i64 o.kind, .int .i64 o.blk, .int .i64 o.n, .int .i64 o.len, .int .u8 (c8 o.fill), o.bv, o.fv] 47) := ⟨_, rfl⟩
                have bX : Hid (Below wr.heap.size wr X) := Lib.hid (by rw [hX]; exact (Below.refl _ _).alloc (Nat.le_refl _) _)
                have gX : X.heap[wr.heap.size]? = some (.cells #[.bool o.two, .int .i64 o.kind, .int .i64 o.blk, .int .i64 o.n, .int .i64 o.len, .int .u8 (c8 o.fill), o.bv, o.fv] 47 (0, 0)) := by rw [hX, heap_alloc_new]
                have y0 : X.cell? ⟨wr.heap.size, 0, none⟩ = some (.bool o.two) := by rw [cell_of_row X _ _ _ _ _ gX]; rfl
                have y1 : X.cell? ⟨wr.heap.size, 1, none⟩ = some (.int .i64 o.kind) := by rw [cell_of_row X _ _ _ _ _ gX]; rfl
                have y2 : X.cell? ⟨wr.heap.size, 2, none⟩ = some (.int .i64 o.blk) := by rw [cell_of_row X _ _ _ _ _ gX]; rfl
                have y3 : X.cell? ⟨wr.heap.size, 3, none⟩ = some (.int .i64 o.n) := by rw [cell_of_row X _ _ _ _ _ gX]; rfl
                have y4 : X.cell? ⟨wr.heap.size, 4, none⟩ = some (.int .i64 o.len) := by rw [cell_of_row X _ _ _ _ _ gX]; rfl
                have y5 : X.cell? ⟨wr.heap.size, 5, none⟩ = some (.int .u8 (c8 o.fill)) := by rw [cell_of_row X _ _ _ _ _ gX]; rfl
                have y6 : X.cell? ⟨wr.heap.size, 6, none⟩ = some o.bv := by rw [cell_of_row X _ _ _ _ _ gX]; rfl
                have y7 : X.cell? ⟨wr.heap.size, 7, none⟩ = some o.fv := by rw [cell_of_row X _ _ _ _ _ gX]; rfl
                have DX := Lib.hid (R2.out.2.2.2.2.1.below bX.out)
                have PL2 := Lib.hid (play_lit DX.out (by have := R2.out.2.1; omega) o (hAt.below bX.out))
                obtain ⟨ab, nb, cb, hbv⟩ : ∃ a n c, o.bv = .slice a n c := by obtain ⟨a1, c1, e1, _⟩ := hAt.1; exact ⟨a1, _, c1, e1⟩
                obtain ⟨af, nf, cf, hfv⟩ : ∃ a n c, o.fv = .slice a n c := by obtain ⟨a1, c1, e1, _⟩ := hAt.2.1; exact ⟨a1, _, c1, e1⟩
                rw [hbv] at x6 y6 PL2 hX
                rw [hfv] at x7 y7 PL2 hX
                have hX' := hX.symm
                clear hAt cx ho gX hX hbv hfv
                by_cases k3 : o.kind = 3
                · have g3 : (o.kind == 3) = true := by rw [beq_iff_eq]; exact k3
                  by_cases kb : o.blk = (q : Int)
                  · have gb : (o.blk == (q : Int)) = true := by rw [beq_iff_eq]; exact kb
                    clear k3 kb
                    clear PL2
                    go_wp2_with fail
                    go_roundg (n' - (k2 + 1))
                    case measure => have := R2.out.1; omega
                    case rel => exact ⟨k2 + 1, s3, cv3, by omega, by omega, rfl, by go_num, by have h2 := R2.out.2.1; omega, R2.out.2.2.1, R2.out.2.2.2.1, DX.out, O2x.out.below bX.out, R2.out.2.2.2.2.2.2.trans (bX.out.mono sb2.out)⟩
                  · have gb : (o.blk == (q : Int)) = false := by rw [beq_eq_false_iff_ne]; exact kb
                    have NSH := Lib.hid (show ¬ ((o.kind = 3 ∨ o.kind = 9) ∧ o.blk = (q : Int)) from fun h => kb h.2)
                    clear k3 kb
                    go_wp2_with fail
                    refine PL2.out.mono ?_
                    rintro e w8 ⟨s8, r8, rfl, hl8, hs8⟩
                    have b8 : Hid (Below b X w8) := Lib.hid (hl8.below DX.out (Nat.le_trans sb2.out bX.out.size))
                    have O8 := Lib.hid (own_left (O2x.out.below bX.out) DX.out hl8)
                    have Q8 := Lib.hid (step_quiet hs8 DX.out.fit R2.out.2.2.2.1 NSH.out)
                    have ST8 := Lib.hid hs8
                    obtain ⟨cv8, hd8, _, _⟩ := hl8
                    have D8 := Lib.hid hd8
                    have RW := Lib.hid (raw_any hd8 (q : Int))
                    have er : rawD s8 (q : Int) = (RR, 0) := by
                      unfold rawD
                      rw [if_neg (by unfold hasB; rw [step_n ST8.out, R2.out.2.2.1]; simp; omega), Int.toNat_natCast, Q8.out.1]
                    rw [er] at RW
                    clear hd8 hs8 PL2 er hX' y0 y1 y2 y3 y4 y5 y6 y7
                    go_wp2_with fail
                    refine RW.out.mono ?_
                    rintro e w9 ⟨u9, rfl, ho9, hb9⟩
                    have O9 := Lib.hid (And.intro ho9 hb9)
                    have SM := Lib.hid (same_any vR u9 RR RR w9 (O8.out.below hb9).bytes ho9.bytes)
                    rw [decide_eq_true rfl] at SM
                    clear ho9 hb9 RW
                    go_wp2_with fail
                    refine SM.out.mono ?_
                    rintro e w10 ⟨rfl, rfl⟩
                    clear SM
                    go_wp2_with fail
                    go_roundg (n' - (k2 + 1))
                    case measure => have := R2.out.1; omega
                    case rel => exact ⟨k2 + 1, s8, cv8, by omega, by omega, rfl, by go_num, by have h1 := step_ws ST8.out; have h2 := R2.out.2.1; omega, by rw [step_n ST8.out]; exact R2.out.2.2.1, Q8.out, D8.out.below O9.out.2, O8.out.below O9.out.2, ((R2.out.2.2.2.2.2.2.trans (bX.out.mono sb2.out)).trans b8.out).trans (O9.out.2.mono (Nat.le_trans sb2.out (Nat.le_trans bX.out.size b8.out.size)))⟩
                · have g3 : (o.kind == 3) = false := by rw [beq_eq_false_iff_ne]; exact k3
                  by_cases k9 : o.kind = 9
                  · have g9 : (o.kind == 9) = true := by rw [beq_iff_eq]; exact k9
                    by_cases kb : o.blk = (q : Int)
                    · have gb : (o.blk == (q : Int)) = true := by rw [beq_iff_eq]; exact kb
                      clear k3 k9 kb
                      clear PL2
                      go_wp2_with fail
                      go_roundg (n' - (k2 + 1))
                      case measure => have := R2.out.1; omega
                      case rel => exact ⟨k2 + 1, s3, cv3, by omega, by omega, rfl, by go_num, by have h2 := R2.out.2.1; omega, R2.out.2.2.1, R2.out.2.2.2.1, DX.out, O2x.out.below bX.out, R2.out.2.2.2.2.2.2.trans (bX.out.mono sb2.out)⟩
                    · have gb : (o.blk == (q : Int)) = false := by rw [beq_eq_false_iff_ne]; exact kb
                      have NSH := Lib.hid (show ¬ ((o.kind = 3 ∨ o.kind = 9) ∧ o.blk = (q : Int)) from fun h => kb h.2)
                      clear k3 k9 kb
                      go_wp2_with fail
                      refine PL2.out.mono ?_
                      rintro e w8 ⟨s8, r8, rfl, hl8, hs8⟩
                      have b8 : Hid (Below b X w8) := Lib.hid (hl8.below DX.out (Nat.le_trans sb2.out bX.out.size))
                      have O8 := Lib.hid (own_left (O2x.out.below bX.out) DX.out hl8)
                      have Q8 := Lib.hid (step_quiet hs8 DX.out.fit R2.out.2.2.2.1 NSH.out)
                      have ST8 := Lib.hid hs8
                      obtain ⟨cv8, hd8, _, _⟩ := hl8
                      have D8 := Lib.hid hd8
                      have RW := Lib.hid (raw_any hd8 (q : Int))
                      have er : rawD s8 (q : Int) = (RR, 0) := by
                        unfold rawD
                        rw [if_neg (by unfold hasB; rw [step_n ST8.out, R2.out.2.2.1]; simp; omega), Int.toNat_natCast, Q8.out.1]
                      rw [er] at RW
                      clear hd8 hs8 PL2 er hX' y0 y1 y2 y3 y4 y5 y6 y7
                      go_wp2_with fail
                      refine RW.out.mono ?_
                      rintro e w9 ⟨u9, rfl, ho9, hb9⟩
                      have O9 := Lib.hid (And.intro ho9 hb9)
                      have SM := Lib.hid (same_any vR u9 RR RR w9 (O8.out.below hb9).bytes ho9.bytes)
                      rw [decide_eq_true rfl] at SM
                      clear ho9 hb9 RW
                      go_wp2_with fail
                      refine SM.out.mono ?_
                      rintro e w10 ⟨rfl, rfl⟩
                      clear SM
                      go_wp2_with fail
                      go_roundg (n' - (k2 + 1))
                      case measure => have := R2.out.1; omega
                      case rel => exact ⟨k2 + 1, s8, cv8, by omega, by omega, rfl, by go_num, by have h1 := step_ws ST8.out; have h2 := R2.out.2.1; omega, by rw [step_n ST8.out]; exact R2.out.2.2.1, Q8.out, D8.out.below O9.out.2, O8.out.below O9.out.2, ((R2.out.2.2.2.2.2.2.trans (bX.out.mono sb2.out)).trans b8.out).trans (O9.out.2.mono (Nat.le_trans sb2.out (Nat.le_trans bX.out.size b8.out.size)))⟩
                  · have g9 : (o.kind == 9) = false := by rw [beq_eq_false_iff_ne]; exact k9
                    have NSH := Lib.hid (show ¬ ((o.kind = 3 ∨ o.kind = 9) ∧ o.blk = (q : Int)) from fun h => h.1.elim k3 k9)
                    clear k3 k9
                    go_wp2_with fail
                    refine PL2.out.mono ?_
                    rintro e w8 ⟨s8, r8, rfl, hl8, hs8⟩
                    have b8 : Hid (Below b X w8) := Lib.hid (hl8.below DX.out (Nat.le_trans sb2.out bX.out.size))
                    have O8 := Lib.hid (own_left (O2x.out.below bX.out) DX.out hl8)
                    have Q8 := Lib.hid (step_quiet hs8 DX.out.fit R2.out.2.2.2.1 NSH.out)
                    have ST8 := Lib.hid hs8
                    obtain ⟨cv8, hd8, _, _⟩ := hl8
                    have D8 := Lib.hid hd8
                    have RW := Lib.hid (raw_any hd8 (q : Int))
                    have er : rawD s8 (q : Int) = (RR, 0) := by
                      unfold rawD
                      rw [if_neg (by unfold hasB; rw [step_n ST8.out, R2.out.2.2.1]; simp; omega), Int.toNat_natCast, Q8.out.1]
                    rw [er] at RW
                    clear hd8 hs8 PL2 er hX' y0 y1 y2 y3 y4 y5 y6 y7
                    go_wp2_with fail
                    refine RW.out.mono ?_
                    rintro e w9 ⟨u9, rfl, ho9, hb9⟩
                    have O9 := Lib.hid (And.intro ho9 hb9)
                    have SM := Lib.hid (same_any vR u9 RR RR w9 (O8.out.below hb9).bytes ho9.bytes)
                    rw [decide_eq_true rfl] at SM
                    clear ho9 hb9 RW
                    go_wp2_with fail
                    refine SM.out.mono ?_
                    rintro e w10 ⟨rfl, rfl⟩
                    clear SM
                    go_wp2_with fail
                    go_roundg (n' - (k2 + 1))
                    case measure => have := R2.out.1; omega
                    case rel => exact ⟨k2 + 1, s8, cv8, by omega, by omega, rfl, by go_num, by have h1 := step_ws ST8.out; have h2 := R2.out.2.1; omega, by rw [step_n ST8.out]; exact R2.out.2.2.1, Q8.out, D8.out.below O9.out.2, O8.out.below O9.out.2, ((R2.out.2.2.2.2.2.2.trans (bX.out.mono sb2.out)).trans b8.out).trans (O9.out.2.mono (Nat.le_trans sb2.out (Nat.le_trans bX.out.size b8.out.size)))⟩
              · have h602 : ¬ (k2 : Int) < 400 := by omega
                go_wp2_with fail
                go_ret
                exact ⟨rfl, R2.out.2.2.2.2.2.2⟩
            · have hlt2 : ¬ (k2 : Int) < (n' : Int) := by omega
              go_wp2_with fail
              go_ret
              exact ⟨rfl, R2.out.2.2.2.2.2.2⟩
        · have EF : flD s2 = actD s2 := by unfold flD; rw [if_pos ha]
          have hdn : (actD s2).1.down = true := act_down ha
          have hcd : (actD s2).2 = 6 := by rcases act_code s2 with h | h; exact absurd h ha; exact h
          rw [EF, hcd] at FL
          obtain ⟨s3F, hs3⟩ : ∃ s3F, s3F = (actD s2).1 := ⟨_, rfl⟩
          rw [← hs3] at FL hdn
          clear EF hs3 ha hcd
          go_wp2_with fail
          refine FL.out.mono ?_
          rintro e w4 ⟨cvF, rfl, hdF, hkF, _⟩
          have DF : Hid (Below b w w4) := Lib.hid (OR.out.2.2.trans (hkF.below (by rw [BB.out]; exact OR.out.2.2.size) (fun x hx => by omega)))
          have DN := Lib.hid (down_any hdF)
          rw [hdn] at DN
          clear hdF hkF FL hdn
          go_wp2_with fail
          refine DN.out.mono ?_
          rintro e w5 ⟨rfl, rfl⟩
          clear DN
          go_wp2_with fail
          go_ret
          exact ⟨rfl, DF.out⟩
      | true =>
        rw [hdn] at DN
        have CR := Lib.hid (crash_any R.out.2.2.2.1 (by have := R.out.2.1; omega) (.slice none 0 0) [] (fun w' _ => fts_nil w'))
        clear hdn
        go_wp2_with fail
        refine DN.out.mono ?_
        rintro e w2 ⟨rfl, rfl⟩
        clear DN
        go_wp2_with fail
        refine CR.out.mono ?_
        rintro e w2 ⟨rfl, hdC, hkC⟩
        obtain ⟨S1, hS1⟩ : ∃ S1, S1 = crD s [] := ⟨_, rfl⟩
        obtain ⟨cvS, hcS⟩ : ∃ cvS, cvS = Value.slice none 0 0 := ⟨_, rfl⟩
        have DS1 : Hid (Dv b w2 (b + 2) b (b + 1) cvS S1 ∧ S1.ws ≤ 401 ∧ S1.n = 64 ∧ S1.down = false ∧ Below b w w2) := Lib.hid (by
          rw [hS1, hcS]
          exact ⟨hdC, by show s.ws ≤ 401; have := R.out.2.1; omega, R.out.2.2.1, rfl, R.out.2.2.2.2.trans (hkC.below sb.out (fun x hx => by omega))⟩)
        clear hdC hkC CR hS1 hcS
        have RD := Lib.hid (read_any DS1.out.1 (q : Int))
        have er : rdD S1 (q : Int) = ({ S1 with cr := up S1.cr }, rdB S1 q, 0) := by
          unfold rdD
          rw [if_neg (by unfold hasB; rw [DS1.out.2.2.1]; simp; omega), if_neg (by rw [DS1.out.2.2.2.1]; exact Bool.noConfusion), Int.toNat_natCast]
        rw [er] at RD
        obtain ⟨RR, hRR⟩ : ∃ RR, RR = rdB S1 q := ⟨_, rfl⟩
        rw [← hRR] at RD
        have ERR := Lib.hid hRR
        obtain ⟨s2, hs2⟩ : ∃ s2 : DS, s2 = { S1 with cr := up S1.cr } := ⟨_, rfl⟩
        rw [← hs2] at RD
        have S2 : Hid (s2.ws ≤ 401 ∧ s2.n = 64 ∧ rdB s2 q = RR) := Lib.hid (by rw [hs2, hRR]; exact ⟨DS1.out.2.1, DS1.out.2.2.1, rfl⟩)
        clear er hs2 hRR
        go_wp2_with fail
        refine RD.out.mono ?_
        rintro e w3 ⟨vR, rfl, hoR, hdR, hkR⟩
        have OR : Hid (Own 0 w3 vR RR ∧ Dv b w3 (b + 2) b (b + 1) cvS s2 ∧ Below b w w3) := Lib.hid ⟨hoR.mono (Nat.zero_le _), hdR, DS1.out.2.2.2.2.trans (hkR.below (by rw [BB.out]; exact DS1.out.2.2.2.2.size) (fun x hx => by omega))⟩
        have FL := Lib.hid (flush_any hdR (by have := S2.out.1; omega))
        clear hoR hdR hkR RD
        by_cases ha : (actD s2).2 = 0
        · have EF : flD s2 = ({ (actD s2).1 with med := sets (fun _ => (1, 0)) 0 s2.cache s2.med, cache := [], cf := up s2.cf }, 0) := by unfold flD; rw [if_neg (by rw [ha]; decide)]
          have SF0 : Hid ((flD s2).1.ws ≤ 402 ∧ (flD s2).1.n = 64 ∧ Quiet (flD s2).1 q RR) := Lib.hid (by
            rw [EF]
            refine ⟨?_, ?_, ?_, fun x hx => by cases hx⟩
            · show (actD s2).1.ws ≤ 402
              rw [(act_same s2).2.2.2.1]; have := S2.out.1; omega
            · show (actD s2).1.n = 64
              rw [(act_same s2).2.2.2.2.1]; exact S2.out.2.1
            · show raw (sets _ 0 s2.cache s2.med) q = RR
              rw [flush_read OR.out.2.1.fit, S2.out.2.2])
          have E0 : (flD s2).2 = 0 := by rw [EF]
          rw [E0] at FL
          obtain ⟨s3F, hs3⟩ : ∃ s3F, s3F = (flD s2).1 := ⟨_, rfl⟩
          rw [← hs3] at FL SF0
          have SF := SF0
          clear SF0 EF E0 hs3 ha
          go_wp2_with fail
          refine FL.out.mono ?_
          rintro e w4 ⟨cvF, rfl, hdF, hkF, _⟩
          have DF : Hid (Dv b w4 (b + 2) b (b + 1) cvF s3F ∧ Own 0 w4 vR RR ∧ Below b w w4) := Lib.hid ⟨hdF, OR.out.1.kept hkF (fun k hk h => OR.out.2.1.bytes_ne OR.out.1 k hk (by rcases h with h | h | h; exact .inl h; exact .inr (.inl h); exact .inr (.inr (.inl h)))), OR.out.2.2.trans (hkF.below (by rw [BB.out]; exact OR.out.2.2.size) (fun x hx => by omega))⟩
          clear hdF hkF FL
          go_wp2_with fail
          go_loopg [11] n' (fun g si wr => ∃ (k2 : Nat) (s3 : DS) (cv3 : Value), k2 ≤ n' ∧ k2 ≤ 400 ∧ g = n' - k2 ∧ si = .int .i64 k2 ∧ s3.ws ≤ k2 + 402 ∧ s3.n = 64 ∧ Quiet s3 q RR ∧ Dv b wr (b + 2) b (b + 1) cv3 s3 ∧ Own 0 wr vR RR ∧ Below b w wr)
          case atStart => exact ⟨0, _, cvF, Nat.zero_le _, Nat.zero_le _, rfl, rfl, SF.out.1, SF.out.2.1, SF.out.2.2, DF.out.1, DF.out.2.1, DF.out.2.2⟩
          case round =>
            obtain ⟨k2, s3, cv3, hk2, hk26, hg2, rfl, hws2, hsn2, hqq, hd3, hvr, hb3⟩ := hrel
            have R2 : Aside (gk = n' - k2 ∧ s3.ws ≤ k2 + 402 ∧ s3.n = 64 ∧ Quiet s3 q RR ∧ Dv b wr (b + 2) b (b + 1) cv3 s3 ∧ Own 0 wr vR RR ∧ Below b w wr) := ⟨hg2, hws2, hsn2, hqq, hd3, hvr, hb3⟩
            have wb2 : Hid (Below w.heap.size w wr) := Lib.hid (by rw [← BB.out]; exact hb3)
            have sb2 : Hid (b ≤ wr.heap.size) := Lib.hid (by rw [BB.out]; exact hb3.size)
            have O2x := Lib.hid hvr
            clear hg2 hws2 hsn2 hqq hd3 hvr hb3
            by_cases hin1 : k2 < n'
            · have hlt2 : (k2 : Int) < (n' : Int) := by omega
              by_cases hin2 : k2 < 400
              · have h602 : (k2 : Int) < 400 := by omega
                obtain ⟨o, ho⟩ : ∃ o, l'[k2]? = some o := ⟨_, List.getElem?_eq_getElem (by rw [← NN'.out]; exact hin1)⟩
                obtain ⟨hAt, bb2, off2, rfl, bblt, cx⟩ := ops_at (V'.out.below wb2.out) ho
                have x0 := cx 0 _ rfl
                have x1 := cx 1 _ rfl
                have x2 := cx 2 _ rfl
                have x3 := cx 3 _ rfl
                have x4 := cx 4 _ rfl
                have x5 := cx 5 _ rfl
                have x6 : wr.cell? ⟨bb2, off2 + k2 * 8 + 6, none⟩ = some o.bv := cx 6 _ rfl
                have x7 : wr.cell? ⟨bb2, off2 + k2 * 8 + 7, none⟩ = some o.fv := cx 7 _ rfl
                rw [Nat.add_zero] at x0
                obtain ⟨X, hX⟩ : ∃ X, X = wr.alloc (.cells #[.bool o.two, .int .i64 o.kind, .int .i64 o.blk, .int .i64 o.n, .int .i64 o.len, .int .u8 (c8 o.fill), o.bv, o.fv] 47) := ⟨_, rfl⟩
                have bX : Hid (Below wr.heap.size wr X) := Lib.hid (by rw [hX]; exact (Below.refl _ _).alloc (Nat.le_refl _) _)
                have gX : X.heap[wr.heap.size]? = some (.cells #[.bool o.two, .int .i64 o.kind, .int .i64 o.blk, .int .i64 o.n, .int .i64 o.len, .int .u8 (c8 o.fill), o.bv, o.fv] 47 (0, 0)) := by rw [hX, heap_alloc_new]
                have y0 : X.cell? ⟨wr.heap.size, 0, none⟩ = some (.bool o.two) := by rw [cell_of_row X _ _ _ _ _ gX]; rfl
                have y1 : X.cell? ⟨wr.heap.size, 1, none⟩ = some (.int .i64 o.kind) := by rw [cell_of_row X _ _ _ _ _ gX]; rfl
                have y2 : X.cell? ⟨wr.heap.size, 2, none⟩ = some (.int .i64 o.blk) := by rw [cell_of_row X _ _ _ _ _ gX]; rfl
                have y3 : X.cell? ⟨wr.heap.size, 3, none⟩ = some (.int .i64 o.n) := by rw [cell_of_row X _ _ _ _ _ gX]; rfl
                have y4 : X.cell? ⟨wr.heap.size, 4, none⟩ = some (.int .i64 o.len) := by rw [cell_of_row X _ _ _ _ _ gX]; rfl
                have y5 : X.cell? ⟨wr.heap.size, 5, none⟩ = some (.int .u8 (c8 o.fill)) := by rw [cell_of_row X _ _ _ _ _ gX]; rfl
                have y6 : X.cell? ⟨wr.heap.size, 6, none⟩ = some o.bv := by rw [cell_of_row X _ _ _ _ _ gX]; rfl
                have y7 : X.cell? ⟨wr.heap.size, 7, none⟩ = some o.fv := by rw [cell_of_row X _ _ _ _ _ gX]; rfl
                have DX := Lib.hid (R2.out.2.2.2.2.1.below bX.out)
                have PL2 := Lib.hid (play_lit DX.out (by have := R2.out.2.1; omega) o (hAt.below bX.out))
                obtain ⟨ab, nb, cb, hbv⟩ : ∃ a n c, o.bv = .slice a n c := by obtain ⟨a1, c1, e1, _⟩ := hAt.1; exact ⟨a1, _, c1, e1⟩
                obtain ⟨af, nf, cf, hfv⟩ : ∃ a n c, o.fv = .slice a n c := by obtain ⟨a1, c1, e1, _⟩ := hAt.2.1; exact ⟨a1, _, c1, e1⟩
                rw [hbv] at x6 y6 PL2 hX
                rw [hfv] at x7 y7 PL2 hX
                have hX' := hX.symm
                clear hAt cx ho gX hX hbv hfv
                by_cases k3 : o.kind = 3
                · have g3 : (o.kind == 3) = true := by rw [beq_iff_eq]; exact k3
                  by_cases kb : o.blk = (q : Int)
                  · have gb : (o.blk == (q : Int)) = true := by rw [beq_iff_eq]; exact kb
                    clear k3 kb
                    clear PL2
                    go_wp2_with fail
                    go_roundg (n' - (k2 + 1))
                    case measure => have := R2.out.1; omega
                    case rel => exact ⟨k2 + 1, s3, cv3, by omega, by omega, rfl, by go_num, by have h2 := R2.out.2.1; omega, R2.out.2.2.1, R2.out.2.2.2.1, DX.out, O2x.out.below bX.out, R2.out.2.2.2.2.2.2.trans (bX.out.mono sb2.out)⟩
                  · have gb : (o.blk == (q : Int)) = false := by rw [beq_eq_false_iff_ne]; exact kb
                    have NSH := Lib.hid (show ¬ ((o.kind = 3 ∨ o.kind = 9) ∧ o.blk = (q : Int)) from fun h => kb h.2)
                    clear k3 kb
                    go_wp2_with fail
                    refine PL2.out.mono ?_
                    rintro e w8 ⟨s8, r8, rfl, hl8, hs8⟩
                    have b8 : Hid (Below b X w8) := Lib.hid (hl8.below DX.out (Nat.le_trans sb2.out bX.out.size))
                    have O8 := Lib.hid (own_left (O2x.out.below bX.out) DX.out hl8)
                    have Q8 := Lib.hid (step_quiet hs8 DX.out.fit R2.out.2.2.2.1 NSH.out)
                    have ST8 := Lib.hid hs8
                    obtain ⟨cv8, hd8, _, _⟩ := hl8
                    have D8 := Lib.hid hd8
                    have RW := Lib.hid (raw_any hd8 (q : Int))
                    have er : rawD s8 (q : Int) = (RR, 0) := by
                      unfold rawD
                      rw [if_neg (by unfold hasB; rw [step_n ST8.out, R2.out.2.2.1]; simp; omega), Int.toNat_natCast, Q8.out.1]
                    rw [er] at RW
                    clear hd8 hs8 PL2 er hX' y0 y1 y2 y3 y4 y5 y6 y7
                    go_wp2_with fail
                    refine RW.out.mono ?_
                    rintro e w9 ⟨u9, rfl, ho9, hb9⟩
                    have O9 := Lib.hid (And.intro ho9 hb9)
                    have SM := Lib.hid (same_any vR u9 RR RR w9 (O8.out.below hb9).bytes ho9.bytes)
                    rw [decide_eq_true rfl] at SM
                    clear ho9 hb9 RW
                    go_wp2_with fail
                    refine SM.out.mono ?_
                    rintro e w10 ⟨rfl, rfl⟩
                    clear SM
                    go_wp2_with fail
                    go_roundg (n' - (k2 + 1))
                    case measure => have := R2.out.1; omega
                    case rel => exact ⟨k2 + 1, s8, cv8, by omega, by omega, rfl, by go_num, by have h1 := step_ws ST8.out; have h2 := R2.out.2.1; omega, by rw [step_n ST8.out]; exact R2.out.2.2.1, Q8.out, D8.out.below O9.out.2, O8.out.below O9.out.2, ((R2.out.2.2.2.2.2.2.trans (bX.out.mono sb2.out)).trans b8.out).trans (O9.out.2.mono (Nat.le_trans sb2.out (Nat.le_trans bX.out.size b8.out.size)))⟩
                · have g3 : (o.kind == 3) = false := by rw [beq_eq_false_iff_ne]; exact k3
                  by_cases k9 : o.kind = 9
                  · have g9 : (o.kind == 9) = true := by rw [beq_iff_eq]; exact k9
                    by_cases kb : o.blk = (q : Int)
                    · have gb : (o.blk == (q : Int)) = true := by rw [beq_iff_eq]; exact kb
                      clear k3 k9 kb
                      clear PL2
                      go_wp2_with fail
                      go_roundg (n' - (k2 + 1))
                      case measure => have := R2.out.1; omega
                      case rel => exact ⟨k2 + 1, s3, cv3, by omega, by omega, rfl, by go_num, by have h2 := R2.out.2.1; omega, R2.out.2.2.1, R2.out.2.2.2.1, DX.out, O2x.out.below bX.out, R2.out.2.2.2.2.2.2.trans (bX.out.mono sb2.out)⟩
                    · have gb : (o.blk == (q : Int)) = false := by rw [beq_eq_false_iff_ne]; exact kb
                      have NSH := Lib.hid (show ¬ ((o.kind = 3 ∨ o.kind = 9) ∧ o.blk = (q : Int)) from fun h => kb h.2)
                      clear k3 k9 kb
                      go_wp2_with fail
                      refine PL2.out.mono ?_
                      rintro e w8 ⟨s8, r8, rfl, hl8, hs8⟩
                      have b8 : Hid (Below b X w8) := Lib.hid (hl8.below DX.out (Nat.le_trans sb2.out bX.out.size))
                      have O8 := Lib.hid (own_left (O2x.out.below bX.out) DX.out hl8)
                      have Q8 := Lib.hid (step_quiet hs8 DX.out.fit R2.out.2.2.2.1 NSH.out)
                      have ST8 := Lib.hid hs8
                      obtain ⟨cv8, hd8, _, _⟩ := hl8
                      have D8 := Lib.hid hd8
                      have RW := Lib.hid (raw_any hd8 (q : Int))
                      have er : rawD s8 (q : Int) = (RR, 0) := by
                        unfold rawD
                        rw [if_neg (by unfold hasB; rw [step_n ST8.out, R2.out.2.2.1]; simp; omega), Int.toNat_natCast, Q8.out.1]
                      rw [er] at RW
                      clear hd8 hs8 PL2 er hX' y0 y1 y2 y3 y4 y5 y6 y7
                      go_wp2_with fail
                      refine RW.out.mono ?_
                      rintro e w9 ⟨u9, rfl, ho9, hb9⟩
                      have O9 := Lib.hid (And.intro ho9 hb9)
                      have SM := Lib.hid (same_any vR u9 RR RR w9 (O8.out.below hb9).bytes ho9.bytes)
                      rw [decide_eq_true rfl] at SM
                      clear ho9 hb9 RW
                      go_wp2_with fail
                      refine SM.out.mono ?_
                      rintro e w10 ⟨rfl, rfl⟩
                      clear SM
                      go_wp2_with fail
                      go_roundg (n' - (k2 + 1))
                      case measure => have := R2.out.1; omega
                      case rel => exact ⟨k2 + 1, s8, cv8, by omega, by omega, rfl, by go_num, by have h1 := step_ws ST8.out; have h2 := R2.out.2.1; omega, by rw [step_n ST8.out]; exact R2.out.2.2.1, Q8.out, D8.out.below O9.out.2, O8.out.below O9.out.2, ((R2.out.2.2.2.2.2.2.trans (bX.out.mono sb2.out)).trans b8.out).trans (O9.out.2.mono (Nat.le_trans sb2.out (Nat.le_trans bX.out.size b8.out.size)))⟩
                  · have g9 : (o.kind == 9) = false := by rw [beq_eq_false_iff_ne]; exact k9
                    have NSH := Lib.hid (show ¬ ((o.kind = 3 ∨ o.kind = 9) ∧ o.blk = (q : Int)) from fun h => h.1.elim k3 k9)
                    clear k3 k9
                    go_wp2_with fail
                    refine PL2.out.mono ?_
                    rintro e w8 ⟨s8, r8, rfl, hl8, hs8⟩
                    have b8 : Hid (Below b X w8) := Lib.hid (hl8.below DX.out (Nat.le_trans sb2.out bX.out.size))
                    have O8 := Lib.hid (own_left (O2x.out.below bX.out) DX.out hl8)
                    have Q8 := Lib.hid (step_quiet hs8 DX.out.fit R2.out.2.2.2.1 NSH.out)
                    have ST8 := Lib.hid hs8
                    obtain ⟨cv8, hd8, _, _⟩ := hl8
                    have D8 := Lib.hid hd8
                    have RW := Lib.hid (raw_any hd8 (q : Int))
                    have er : rawD s8 (q : Int) = (RR, 0) := by
                      unfold rawD
                      rw [if_neg (by unfold hasB; rw [step_n ST8.out, R2.out.2.2.1]; simp; omega), Int.toNat_natCast, Q8.out.1]
                    rw [er] at RW
                    clear hd8 hs8 PL2 er hX' y0 y1 y2 y3 y4 y5 y6 y7
                    go_wp2_with fail
                    refine RW.out.mono ?_
                    rintro e w9 ⟨u9, rfl, ho9, hb9⟩
                    have O9 := Lib.hid (And.intro ho9 hb9)
                    have SM := Lib.hid (same_any vR u9 RR RR w9 (O8.out.below hb9).bytes ho9.bytes)
                    rw [decide_eq_true rfl] at SM
                    clear ho9 hb9 RW
                    go_wp2_with fail
                    refine SM.out.mono ?_
                    rintro e w10 ⟨rfl, rfl⟩
                    clear SM
                    go_wp2_with fail
                    go_roundg (n' - (k2 + 1))
                    case measure => have := R2.out.1; omega
                    case rel => exact ⟨k2 + 1, s8, cv8, by omega, by omega, rfl, by go_num, by have h1 := step_ws ST8.out; have h2 := R2.out.2.1; omega, by rw [step_n ST8.out]; exact R2.out.2.2.1, Q8.out, D8.out.below O9.out.2, O8.out.below O9.out.2, ((R2.out.2.2.2.2.2.2.trans (bX.out.mono sb2.out)).trans b8.out).trans (O9.out.2.mono (Nat.le_trans sb2.out (Nat.le_trans bX.out.size b8.out.size)))⟩
              · have h602 : ¬ (k2 : Int) < 400 := by omega
                go_wp2_with fail
                go_ret
                exact ⟨rfl, R2.out.2.2.2.2.2.2⟩
            · have hlt2 : ¬ (k2 : Int) < (n' : Int) := by omega
              go_wp2_with fail
              go_ret
              exact ⟨rfl, R2.out.2.2.2.2.2.2⟩
        · have EF : flD s2 = actD s2 := by unfold flD; rw [if_pos ha]
          have hdn : (actD s2).1.down = true := act_down ha
          have hcd : (actD s2).2 = 6 := by rcases act_code s2 with h | h; exact absurd h ha; exact h
          rw [EF, hcd] at FL
          obtain ⟨s3F, hs3⟩ : ∃ s3F, s3F = (actD s2).1 := ⟨_, rfl⟩
          rw [← hs3] at FL hdn
          clear EF hs3 ha hcd
          go_wp2_with fail
          refine FL.out.mono ?_
          rintro e w4 ⟨cvF, rfl, hdF, hkF, _⟩
          have DF : Hid (Below b w w4) := Lib.hid (OR.out.2.2.trans (hkF.below (by rw [BB.out]; exact OR.out.2.2.size) (fun x hx => by omega)))
          have DN := Lib.hid (down_any hdF)
          rw [hdn] at DN
          clear hdF hkF FL hdn
          go_wp2_with fail
          refine DN.out.mono ?_
          rintro e w5 ⟨rfl, rfl⟩
          clear DN
          go_wp2_with fail
          go_ret
          exact ⟨rfl, DF.out⟩
end Go.Proofs.Ytlnjclabnpenmaa
