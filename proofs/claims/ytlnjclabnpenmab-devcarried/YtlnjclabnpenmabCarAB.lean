/-
  DevCarried, one of four cases.
-/
import Derived.Test.YtlnjclabnpenmabCarH
namespace Go.Proofs.Ytlnjclabnpenmab
open Go.RowKit Go.Maps
set_option maxHeartbeats 8000000 in
set_option maxRecDepth 100000 in
theorem devCarried_ab (v : Value) (l : List OpD) (v' : Value) (l' : List OpD) (w : World) (hv : Ops w v l) (hv' : Ops w v' l') (hN : l.length ≤ 400) (hN' : 400 < l'.length) :
    Calls Try.prog 3 #[v, v'] w fun e w' => e = .returned (.bool true) ∧ Below w.heap.size w w' := by
  have V := Lib.hid hv
  have V' := Lib.hid hv'
  obtain ⟨_, a, cap, rfl, hlc, hcm, _⟩ := hv
  obtain ⟨_, a', cap', rfl, hlc', hcm', _⟩ := hv'
  unfold maxLen at hcm hcm'
  have LV := Lib.hid (lives_any w)
  obtain ⟨n, hn⟩ : ∃ n, n = l.length := ⟨_, rfl⟩
  obtain ⟨n', hn'⟩ : ∃ n', n' = l'.length := ⟨_, rfl⟩
  rw [← hn] at hlc V hN ⊢
  rw [← hn'] at hlc' V' hN' ⊢
  have NN := Lib.hid hn
  have NN' := Lib.hid hn'
  obtain ⟨b, hb⟩ : ∃ b, b = w.heap.size := ⟨_, rfl⟩
  rw [← hb] at LV ⊢
  have BB := Lib.hid hb
  clear hn hn' hb
  go_enter Try.func3, Try.ntmps3
  go_wp2_with fail
  refine LV.out.mono ?_
  rintro e w1 ⟨cv1, rfl, hd1, hb1⟩
  have D1 := Lib.hid (And.intro hd1 hb1)
  clear hd1 hb1 LV
  go_wp2_with fail
  go_loopg [6] n (fun g si wr => ∃ (k : Nat) (s : DS) (cv : Value), k ≤ n ∧ k ≤ 400 ∧ g = n - k ∧ si = .int .i64 k ∧ s.ws ≤ k + 1 ∧ s.n = 64 ∧ Dv b wr (b + 2) b (b + 1) cv s ∧ Below b w wr)
  case atStart => exact ⟨0, liveS, cv1, Nat.zero_le _, Nat.zero_le _, rfl, rfl, Nat.le_refl _, rfl, D1.out.1, D1.out.2⟩
  case round =>
    obtain ⟨k, s, cv, hk, hk6, hg, rfl, hws, hsn, hd, hb⟩ := hrel
    have R : Aside (gk = n - k ∧ s.ws ≤ k + 1 ∧ s.n = 64 ∧ Dv b wr (b + 2) b (b + 1) cv s ∧ Below b w wr) := ⟨hg, hws, hsn, hd, hb⟩
    have wb : Hid (Below w.heap.size w wr) := Lib.hid (by rw [← BB.out]; exact hb)
    have sb : Hid (b ≤ wr.heap.size) := Lib.hid (by rw [BB.out]; exact hb.size)
    clear hg hws hd hb hsn
    by_cases hin : k < n ∧ k < 400
    · have hlt' : (k : Int) < (n : Int) := by omega
      have h60' : (k : Int) < 400 := by omega
      obtain ⟨o, ho⟩ : ∃ o, l[k]? = some o := ⟨_, List.getElem?_eq_getElem (by rw [← NN.out]; exact hin.1)⟩
      obtain ⟨hAt, bb, off, rfl, _, cx⟩ := ops_at (V.out.below wb.out) ho
      have PL := Lib.hid (play_lit R.out.2.2.2.1 (by have := R.out.2.1; omega) o hAt)
      have x0 := cx 0 _ rfl
      have x1 := cx 1 _ rfl
      have x2 := cx 2 _ rfl
      have x3 := cx 3 _ rfl
      have x4 := cx 4 _ rfl
      have x5 := cx 5 _ rfl
      have x6 := cx 6 _ rfl
      have x7 := cx 7 _ rfl
      rw [Nat.add_zero] at x0
      clear hAt cx ho
      go_wp2_with fail
      refine PL.out.mono ?_
      rintro e w5 ⟨s5, r, rfl, hl5, hs5⟩
      have b5 : Hid (Below b wr w5) := Lib.hid (hl5.below R.out.2.2.2.1 sb.out)
      have ST := Lib.hid hs5
      obtain ⟨cv5, hd5, hk5, _⟩ := hl5
      have D5 := Lib.hid hd5
      clear hd5 hk5 hs5 PL x0 x1 x2 x3 x4 x5 x6 x7
      go_wp2_with fail
      go_roundg (n - (k + 1))
      case measure => have := R.out.1; omega
      case rel => exact ⟨k + 1, s5, cv5, by omega, by omega, rfl, by go_num, by have h1 := step_ws ST.out; have h2 := R.out.2.1; omega, by rw [step_n ST.out]; exact R.out.2.2.1, D5.out, R.out.2.2.2.2.trans b5.out⟩
    · have hlt' : ¬ (k : Int) < (n : Int) := by omega
      clear hin
      have MD := Lib.hid (medium_any R.out.2.2.2.1)
      obtain ⟨M, hM⟩ : ∃ M, M = s.med := ⟨_, rfl⟩
      have ML : Hid (M.length = 32768) := Lib.hid (by rw [hM, R.out.2.2.2.1.fit.len, R.out.2.2.1])
      have e64 : 512 * s.n = 32768 := by rw [R.out.2.2.1]
      rw [← hM, e64] at MD
      have HM := Lib.hid hM
      clear hM e64
      go_wp2_with fail
      refine MD.out.mono ?_
      rintro e w2 ⟨rfl, ho2, hb2⟩
      have O2 := Lib.hid (And.intro ho2 hb2)
      clear ho2 hb2 MD
      have E2 : Hid (Own w2.heap.size w2 (.slice none 0 0) []) := Lib.hid (World.ownsRow_nil _ _ _ _)
      go_wp2_with (at_builtin; refine app_bytes (B := w2.heap.size) (v := .slice none 0 0) (l := []) (m := M) rfl (.const (.slice none 0 0)) (.tmp 37) rfl rfl E2.out (Nat.le_refl _) rfl O2.out.1.bytes (by rw [ML.out]; decide) ?_)
      intro v8 w3 h1 h2 h3
      obtain ⟨c, hc⟩ : ∃ c, c = w3.heap.size := ⟨_, rfl⟩
      have b23 : Below w2.heap.size w2 w3 := (Below.refl _ w2).grown h2 (Nat.le_refl _) (by intro k hk; cases hk)
      have O3 : Hid (Own wr.heap.size w3 (.slice (some ⟨wr.heap.size, 0, none⟩) 32768 32768) M ∧ Own w2.heap.size w3 v8 M ∧ Below wr.heap.size wr w3) := Lib.hid ⟨O2.out.1.below b23, by simpa using h1, O2.out.2.trans (b23.mono O2.out.2.size)⟩
      obtain ⟨a8, n8, c8', e8⟩ : ∃ a n c, v8 = .slice a n c := by obtain ⟨a, c, e, _⟩ := O3.out.2.1.bytes; exact ⟨a, _, c, e⟩
      have OF := Lib.hid (of_ok _ M 64 w3 O3.out.1.bytes ML.out (by decide) (by decide))
      rw [← hc] at OF
      have CC := Lib.hid hc
      have g8 : Hid (v8.ownBlock ≠ some wr.heap.size) := Lib.hid (fun e => by
        have q1 := (O3.out.2.1.lt _ e).1
        have q2 := O2.out.2.size
        obtain ⟨cur, hcur⟩ := row_block O2.out.1 (show (Value.slice (some ⟨wr.heap.size, 0, none⟩) 32768 32768).ownBlock = some wr.heap.size from rfl)
        have := lt_of_heap hcur
        omega)
      clear h1 h2 h3 b23 hc
      subst e8
      go_wp2_with fail
      refine OF.out.mono ?_
      rintro e w4 ⟨rfl, hb4, hd4⟩
      have D4 := Lib.hid (And.intro hb4 hd4)
      have b4 : Hid (Below wr.heap.size wr w4) := Lib.hid (O3.out.2.2.trans (Below.mono (w := w3) hb4 (by rw [CC.out]; exact O3.out.2.2.size)))
      have O4 : Hid (Own wr.heap.size w4 (.slice (some ⟨wr.heap.size, 0, none⟩) 32768 32768) M ∧ Own w2.heap.size w4 (.slice a8 n8 c8') M) := Lib.hid (by rw [CC.out] at hb4; exact ⟨O3.out.1.below hb4, O3.out.2.1.below hb4⟩)
      have SM := Lib.hid (same_any _ _ M M w4 O4.out.1.bytes O4.out.2.bytes)
      rw [decide_eq_true rfl] at SM
      clear hb4 hd4 OF
      go_wp2_with fail
      refine SM.out.mono ?_
      rintro e w4 ⟨rfl, rfl⟩
      have Dd4 := Lib.hid (R.out.2.2.2.1.below b4.out)
      have CR := Lib.hid (crash_any Dd4.out (by have := R.out.2.1; omega) (.slice none 0 0) [] (fun w' _ => ⟨none, 0, rfl, by simp, by decide, fun _ => rfl, fun k hk => by simp at hk⟩))
      clear SM
      go_wp2_with fail
      refine CR.out.mono ?_
      rintro e w5 ⟨rfl, hd5, hk5⟩
      have bc : Hid (b + 3 ≤ c) := Lib.hid (by
        have q := (R.out.2.2.2.1.foot_lt (b + 2) (.inl rfl)).2
        have q2 := O3.out.2.2.size
        rw [CC.out]; omega)
      have P4 : Hid (Ph b c w w4 s (newD 64 M) (.slice a8 n8 c8') M) := Lib.hid ⟨⟨⟨cv, Dd4.out⟩, R.out.2.2.2.2.trans (b4.out.mono sb.out), Nat.le_trans sb.out b4.out.size⟩, D4.out.2, O4.out.2.mono (Nat.zero_le _), bc.out⟩
      have k5' : Kept (Foot (b + 2) b (b + 1) cv) w4 w5 := hk5.mono (fun k _ h => foot3 cv k h)
      have P5 := Lib.hid (ph_kept P4.out Dd4.out hd5 k5')
      have m5 := Lib.hid (O4.out.1.kept k5' (Dd4.out.bytes_ne O4.out.1))
      have em : (crD s []).med = M := by show sets (fateAt []) 0 s.cache s.med = M; rw [sets_none, HM.out]
      have en : 512 * (crD s []).n = 32768 := by show 512 * s.n = 32768; rw [R.out.2.2.1]
      have MD := Lib.hid (medium_any hd5)
      rw [em, en] at MD
      have D5 := Lib.hid hd5
      obtain ⟨s5, hs5⟩ : ∃ s5, s5 = crD s [] := ⟨_, rfl⟩
      have S5 : Hid (s5.ws ≤ 401 ∧ s5.n = 64) := Lib.hid (by rw [hs5]; exact ⟨by show s.ws ≤ 401; have := R.out.2.1; omega, R.out.2.2.1⟩)
      rw [← hs5] at P5
      clear hd5 hk5 k5' CR em en P4 hs5 D5
      go_wp2_with fail
      refine MD.out.mono ?_
      rintro e w6 ⟨rfl, ho6, hb6⟩
      have P6 := Lib.hid (ph_below P5.out hb6)
      have m6 := Lib.hid (m5.out.below hb6)
      have SM := Lib.hid (same_any _ _ M M w6 ho6.bytes P6.out.2.2.1.bytes)
      rw [decide_eq_true rfl] at SM
      clear ho6 hb6 MD P5 m5
      go_wp2_with fail
      refine SM.out.mono ?_
      rintro e w6 ⟨rfl, rfl⟩
      clear SM
      obtain ⟨gm, hgm⟩ : ∃ gm, gm = wr.heap.size := ⟨_, rfl⟩
      rw [← hgm] at m6 g8 ⊢
      have bg : Hid (b ≤ gm) := Lib.hid (by rw [hgm]; exact sb.out)
      have q6 : Hid (∃ lm : List UInt8, lm.length = 32768 ∧ w6.heap[gm]? = some (.cells (cells8 lm).toArray 5 (0, 0))) := Lib.hid (by
        obtain ⟨_, ⟨hv, _⟩ | ⟨g, cap0, cur, hv, _, hg, hn0, _, hs0, ht⟩⟩ := m6.out
        · cases hv
        · simp only [Value.slice.injEq, Option.some.injEq, Addr.mk.injEq] at hv
          obtain ⟨⟨rfl, _, _⟩, _, rfl⟩ := hv
          refine ⟨M, ML.out, ?_⟩
          rw [hg]
          congr 2
          apply Array.ext'
          rw [← ht, List.take_of_length_le (by rw [Array.length_toList, hs0, ML.out]; omega)])
      clear hgm m6
      go_wp2_with fail
      go_loopg [11] 32768 (fun g si W => ∃ (k2 : Nat) (lm : List UInt8), k2 ≤ 32768 ∧ g = 32768 - k2 ∧ si = .int .i64 k2 ∧ lm.length = 32768 ∧ W.heap[gm]? = some (.cells (cells8 lm).toArray 5 (0, 0)) ∧ Ph b c w W s5 (newD 64 M) (.slice a8 n8 c8') M)
      case atStart =>
        obtain ⟨lm, h1, h2⟩ := q6.out
        exact ⟨0, lm, Nat.zero_le _, rfl, rfl, h1, h2, P6.out⟩
      case round =>
        rename_i wr0 _
        obtain ⟨k2, lm, hk2, hg2, rfl, hlm, hgm, hph⟩ := hrel
        have R2 : Aside (gk = 32768 - k2 ∧ lm.length = 32768 ∧ wr.heap[gm]? = some (.cells (cells8 lm).toArray 5 (0, 0)) ∧ Ph b c w wr s5 (newD 64 M) (.slice a8 n8 c8') M) := ⟨hg2, hlm, hgm, hph⟩
        by_cases hlt2 : k2 < 32768
        · have hlt2' : (k2 : Int) < 32768 := by omega
          have c1 : wr.cell? ⟨gm, k2, none⟩ = some (.int .u8 (c8 (lm.getD k2 0))) := by rw [cell_of_row wr _ _ _ _ _ hgm, List.getElem?_toArray, cells8_at (by rw [hlm]; exact hlt2)]
          have c2 : wr.frozen? ⟨gm, k2, none⟩ = false := frozen_of_row wr _ _ _ _ hgm
          obtain ⟨f, hf⟩ : ∃ f, f = lm.getD k2 0 := ⟨_, rfl⟩
          rw [← hf] at c1
          have hw1 : (c8 f + 1) % 256 = c8 (f + 1) := by unfold c8; rw [UInt8.toNat_add]; have := f.toNat_lt; show _ = (((f.toNat + 1) % 256 : Nat) : Int); omega
          have W1 := Lib.hid hw1
          clear hg2 hlm hgm hph hf hw1
          go_wp2_with fail
          rw [W1.out]
          go_roundg (32768 - (k2 + 1))
          case measure => have := R2.out.1; omega
          case rel => exact ⟨k2 + 1, lm.set k2 (f + 1), by omega, rfl, by go_num, by rw [List.length_set]; exact R2.out.2.1, by rw [heap_setCell_same _ _ _ _ _ _ R2.out.2.2.1, set_cells], ph_set R2.out.2.2.2 R2.out.2.2.1 bg.out g8.out _ _⟩
        · have hlt2' : ¬ (k2 : Int) < 32768 := by omega
          clear hg2 hlm hgm hph
          go_wp2_with fail
          go_loopg [12] n' (fun g si W => ∃ (k3 : Nat) (s3 : DS), k3 ≤ n' ∧ k3 ≤ 400 ∧ g = n' - k3 ∧ si = .int .i64 k3 ∧ s3.ws ≤ k3 + 402 ∧ Ph b c w W s3 (newD 64 M) (.slice a8 n8 c8') M)
          case atStart => exact ⟨0, s5, Nat.zero_le _, Nat.zero_le _, rfl, rfl, by have := S5.out.1; omega, R2.out.2.2.2⟩
          case round =>
            rename_i wr1 _ _
            obtain ⟨k3, s3, hk3, hk36, hg3, rfl, hws3, hph3⟩ := hrel
            have R3 : Aside (gk = n' - k3 ∧ s3.ws ≤ k3 + 402 ∧ Ph b c w wr s3 (newD 64 M) (.slice a8 n8 c8') M) := ⟨hg3, hws3, hph3⟩
            have wb3 : Hid (Below w.heap.size w wr) := Lib.hid (by rw [← BB.out]; exact hph3.1.2.1)
            clear hg3 hws3 hph3
            by_cases hin3 : k3 < n' ∧ k3 < 400
            · have hlt3 : (k3 : Int) < (n' : Int) := by omega
              have h603 : (k3 : Int) < 400 := by omega
              obtain ⟨o, ho⟩ : ∃ o, l'[k3]? = some o := ⟨_, List.getElem?_eq_getElem (by rw [← NN'.out]; exact hin3.1)⟩
              obtain ⟨hAt, bb, off, rfl, _, cx⟩ := ops_at (V'.out.below wb3.out) ho
              obtain ⟨cvd, hdd⟩ := R3.out.2.2.1.1
              have PL := Lib.hid (play_lit hdd (by have := R3.out.2.1; omega) o hAt)
              have DD := Lib.hid hdd
              have x0 := cx 0 _ rfl
              have x1 := cx 1 _ rfl
              have x2 := cx 2 _ rfl
              have x3 := cx 3 _ rfl
              have x4 := cx 4 _ rfl
              have x5 := cx 5 _ rfl
              have x6 := cx 6 _ rfl
              have x7 := cx 7 _ rfl
              rw [Nat.add_zero] at x0
              clear hAt cx ho hdd
              go_wp2_with fail
              refine PL.out.mono ?_
              rintro e w7 ⟨s7, r7, rfl, hl7, hs7⟩
              have ST := Lib.hid hs7
              obtain ⟨cv7, hd7, hk7, _⟩ := hl7
              have P7 := Lib.hid (ph_kept R3.out.2.2 DD.out hd7 hk7)
              clear hd7 hk7 hs7 PL x0 x1 x2 x3 x4 x5 x6 x7
              go_wp2_with fail
              go_roundg (n' - (k3 + 1))
              case measure => have := R3.out.1; omega
              case rel => exact ⟨k3 + 1, s7, by omega, by omega, rfl, by go_num, by have h1 := step_ws ST.out; have h2 := R3.out.2.1; omega, P7.out⟩
            · have hlt3 : (k3 : Int) < (n' : Int) := by omega
              have h603 : ¬ (k3 : Int) < 400 := by omega
              clear hin3
              have BK := Lib.hid (blocks_any R3.out.2.2.2.1)
              have e0 : (newD 64 M).n = 64 := rfl
              rw [e0] at BK
              clear e0
              go_wp2_with fail
              refine BK.out.mono ?_
              rintro e w8 ⟨rfl, rfl⟩
              have DN := Lib.hid (down_any R3.out.2.2.2.1)
              have e1 : (newD 64 M).down = false := rfl
              rw [e1] at DN
              clear BK e1
              go_wp2_with fail
              refine DN.out.mono ?_
              rintro e w8 ⟨rfl, rfl⟩
              have PD := Lib.hid (pending_any R3.out.2.2.2.1 (by show (0 : Nat) < _; omega))
              clear DN
              go_wp2_with fail
              refine PD.out.mono ?_
              rintro e w9 ⟨u9, rfl, ho9, hb9⟩
              obtain ⟨a9, c9, e9, _⟩ := ho9.ints
              have e9' : u9 = .slice a9 0 c9 := e9
              subst e9'
              have P9 := Lib.hid (ph_below R3.out.2.2 hb9)
              have CT := Lib.hid (counts_any P9.out.2.1)
              have e10 : (Value.agg #[.int .i64 (newD 64 M).cr, .int .i64 (newD 64 M).cw, .int .i64 (newD 64 M).cf]) = .agg #[.int .i64 0, .int .i64 0, .int .i64 0] := rfl
              rw [e10] at CT
              clear ho9 hb9 PD e9 e10
              go_wp2_with fail
              refine CT.out.mono ?_
              rintro e w10 ⟨rfl, hb10⟩
              have P10 := Lib.hid (ph_below P9.out hb10)
              clear hb10 CT P9
              go_wp2_with fail
              go_loopg [13] 64 (fun g si W => ∃ (k4 : Nat), k4 ≤ 64 ∧ g = 64 - k4 ∧ si = .int .i64 k4 ∧ Ph b c w W s3 ⟨64, M, [], false, 0, false, (k4 : Int), 0, 0, 0⟩ (.slice a8 n8 c8') M)
              case atStart => exact ⟨0, Nat.zero_le _, rfl, rfl, P10.out⟩
              case round =>
                rename_i wr2 _ _ _
                obtain ⟨k4, hk4, hg4, rfl, hph4⟩ := hrel
                have R4 : Aside (gk = 64 - k4 ∧ Ph b c w wr s3 ⟨64, M, [], false, 0, false, (k4 : Int), 0, 0, 0⟩ (.slice a8 n8 c8') M) := ⟨hg4, hph4⟩
                clear hg4 hph4
                by_cases hlt4 : k4 < 64
                · have hlt4' : (k4 : Int) < 64 := by omega
                  have RD := Lib.hid (read_any R4.out.2.2.1 (k4 : Int))
                  rw [read_new hlt4, up_nat k4 (by omega)] at RD
                  obtain ⟨r4, hr4⟩ : ∃ r4, r4 = raw M k4 := ⟨_, rfl⟩
                  have HR := Lib.hid hr4
                  rw [← hr4] at RD
                  clear hr4
                  go_wp2_with fail
                  refine RD.out.mono ?_
                  rintro e w11 ⟨u11, rfl, ho11, hd11, hk11⟩
                  have KP : Hid (Own 0 w11 (.slice a8 n8 c8') M ∧ St b w w11 s3) := Lib.hid (by
                    obtain ⟨⟨⟨cvd, hdd⟩, q1, q2⟩, qx, qo, qbc⟩ := R4.out.2
                    have nx : ¬ Foot (b + 2) b (b + 1) cvd (c + 2) := fun hf => by
                      rcases hf with h | h | h | h
                      · omega
                      · omega
                      · omega
                      · obtain ⟨cur, hcur⟩ := row_block hdd.cache h
                        rw [qx.self] at hcur; simp at hcur
                    refine ⟨qo.kept hk11 (fun j hj e => qx.bytes_ne qo j hj (.inl e)), ⟨cvd, hdd.kept hk11 (fun j hf e => nx (e ▸ hf))⟩, q1.trans (hk11.below q2 (fun x hx => by omega)), Nat.le_trans q2 hk11.size⟩)
                  have P11 : Hid (Ph b c w w11 s3 ⟨64, M, [], false, 0, false, ((k4 + 1 : Nat) : Int), 0, 0, 0⟩ (.slice a8 n8 c8') M) := Lib.hid ⟨KP.out.2, hd11, KP.out.1, R4.out.2.2.2.2⟩
                  obtain ⟨g8b, cap8, cur8, ev8, hn8⟩ : ∃ g cp, True ∧ Value.slice a8 n8 c8' = .slice (some ⟨g, 0, none⟩) 32768 cp ∧ 32768 ≤ cp := by
                    obtain ⟨_, ⟨hv, hn⟩ | ⟨g, cp, cur, hv, _, _, hn, _⟩⟩ := KP.out.1
                    · have := ML.out; omega
                    · exact ⟨g, cp, trivial, by rw [hv, ML.out], by rw [← ML.out]; exact hn⟩
                  simp only [Value.slice.injEq] at ev8
                  obtain ⟨rfl, rfl, rfl⟩ := ev8
                  obtain ⟨q, hq⟩ : ∃ q, q = 512 * k4 := ⟨_, rfl⟩
                  have Q1 : (512 : Int) * (k4 : Int) = (q : Int) := by omega
                  have hq1 : q + 512 ≤ 32768 := by omega
                  have hqc : ¬ c8' = q := by omega
                  have BS : Hid (Bytes w11 (.slice (some ⟨g8b, q, none⟩) 512 (c8' - q)) r4) := Lib.hid (by
                    obtain ⟨a0, cp0, e0, h1, h2, _, hc⟩ := KP.out.1.bytes
                    simp only [Value.slice.injEq] at e0
                    have hl4 : r4.length = 512 := by rw [HR.out, raw_length _ _ (by rw [ML.out]; omega)]
                    refine ⟨_, c8' - q, by rw [hl4], by rw [hl4]; omega, by have := e0.2.2; omega, (fun h => by cases h), fun j hj => ⟨g8b, q, rfl, ?_⟩⟩
                    rw [hl4] at hj
                    obtain ⟨b', off', ea, hcell⟩ := hc (q + j) (by rw [ML.out]; omega)
                    rw [← e0.1] at ea
                    simp only [Option.some.injEq, Addr.mk.injEq] at ea
                    obtain ⟨rfl, rfl, _⟩ := ea
                    rw [Nat.zero_add] at hcell
                    rw [hcell, HR.out]
                    congr 3
                    rw [List.getD_eq_getElem?_getD, List.getD_eq_getElem?_getD, raw_at _ _ _ hj, hq])
                  have SM := Lib.hid (same_any u11 (.slice (some ⟨g8b, q, none⟩) 512 (c8' - q)) r4 r4 w11 ho11.bytes BS.out)
                  rw [decide_eq_true rfl] at SM
                  have Q2 : (q : Int) + 512 - (q : Int) = 512 := by omega
                  have Q3 : q + 512 - q = 512 := by omega
                  clear ho11 hd11 hk11 RD hq
                  go_wp2_with fail
                  refine SM.out.mono ?_
                  rintro e w11 ⟨rfl, rfl⟩
                  clear SM Q1 Q2 Q3 hqc
                  go_wp2_with fail
                  go_roundg (64 - (k4 + 1))
                  case measure => have := R4.out.1; omega
                  case rel => exact ⟨k4 + 1, by omega, rfl, by go_num, P11.out⟩
                · have hlt4' : ¬ (k4 : Int) < 64 := by omega
                  have ek4 : k4 = 64 := by omega
                  subst ek4
                  have MD := Lib.hid (medium_any R4.out.2.2.1)
                  go_wp2_with fail
                  refine MD.out.mono ?_
                  rintro e w12 ⟨rfl, ho12, hb12⟩
                  have P12 := Lib.hid (ph_below R4.out.2 hb12)
                  have ho12' : Own wr.heap.size w12 (.slice (some ⟨wr.heap.size, 0, none⟩) (512 * 64) (512 * 64)) M := ho12
                  have SM := Lib.hid (same_any _ _ M M w12 ho12'.bytes P12.out.2.2.1.bytes)
                  rw [decide_eq_true rfl] at SM
                  clear ho12 ho12' hb12 MD
                  go_wp2_with fail
                  refine SM.out.mono ?_
                  rintro e w12 ⟨rfl, rfl⟩
                  have CT := Lib.hid (counts_any P12.out.2.1)
                  clear SM
                  go_wp2_with fail
                  refine CT.out.mono ?_
                  rintro e w13 ⟨rfl, hb13⟩
                  have P13 := Lib.hid (ph_below P12.out hb13)
                  clear hb13 CT
                  go_wp2_with fail
                  go_ret
                  exact ⟨rfl, P13.out.1.2.1⟩
end Go.Proofs.Ytlnjclabnpenmab
