/-
  DevLeaves, one of four cases.
-/
import Derived.Test.YtlnjclabnpenmaaLvC
namespace Go.Proofs.Ytlnjclabnpenmaa
open Go.RowKit Go.Maps
set_option maxHeartbeats 8000000 in
set_option maxRecDepth 100000 in
theorem devLeaves_bb (v : Value) (l : List OpD) (v' : Value) (ol : List Bool) (v'' : Value) (fs : List (Int × Int)) (w : World) (hv : Ops w v l) (hv' : Bools w v' ol) (hv'' : Fts w v'' fs) (hfl : fs.length * 16 ≤ 140737488355328) (hN : 400 < l.length) (hN' : 20 < ol.length) :
    Calls Try.prog 7 #[v, v', v''] w fun e w' => e = .returned (.bool true) ∧ Below w.heap.size w w' := by
  have V := Lib.hid hv
  have V' := Lib.hid hv'
  have V3 := Lib.hid (And.intro hv'' hfl)
  obtain ⟨_, a, cap, rfl, hlc, hcm, _⟩ := hv
  obtain ⟨a', cap', rfl, hlc', hcm', _⟩ := hv'
  obtain ⟨a3, cap3, rfl, hlc3, hcm3, _, _⟩ := hv''
  unfold maxLen at hcm hcm' hcm3
  have LV := Lib.hid (lives_any w)
  obtain ⟨n, hn⟩ : ∃ n, n = l.length := ⟨_, rfl⟩
  obtain ⟨n', hn'⟩ : ∃ n', n' = ol.length := ⟨_, rfl⟩
  obtain ⟨n3, hn3⟩ : ∃ n3, n3 = fs.length := ⟨_, rfl⟩
  rw [← hn] at hlc V hN ⊢
  rw [← hn'] at hlc' V' hN' ⊢
  rw [← hn3] at hlc3 V3 hfl ⊢
  have NN := Lib.hid hn
  have NN' := Lib.hid hn'
  have NN3 := Lib.hid (And.intro hn3 hfl)
  obtain ⟨b, hb⟩ : ∃ b, b = w.heap.size := ⟨_, rfl⟩
  rw [← hb] at LV ⊢
  have BB := Lib.hid hb
  clear hn hn' hn3 hb hfl
  go_enter Try.func7, Try.ntmps7
  go_wp2_with fail
  refine LV.out.mono ?_
  rintro e w1 ⟨cv1, rfl, hd1, hb1⟩
  have D1 := Lib.hid (And.intro hd1 hb1)
  clear hd1 hb1 LV
  go_wp2_with fail
  go_loopg [8] n (fun g si wr => ∃ (k : Nat) (s : DS) (cv : Value), k ≤ n ∧ k ≤ 400 ∧ g = n - k ∧ si = .int .i64 k ∧ s.ws ≤ k + 1 ∧ s.n = 64 ∧ Dv b wr (b + 2) b (b + 1) cv s ∧ Below b w wr)
  case atStart => exact ⟨0, liveS, cv1, Nat.zero_le _, Nat.zero_le _, rfl, rfl, Nat.le_refl _, rfl, D1.out.1, D1.out.2⟩
  case round =>
    obtain ⟨k, s, cv, hk, hk6, hg, rfl, hws, hsn, hd, hb⟩ := hrel
    have R : Aside (gk = n - k ∧ s.ws ≤ k + 1 ∧ s.n = 64 ∧ Dv b wr (b + 2) b (b + 1) cv s ∧ Below b w wr) := ⟨hg, hws, hsn, hd, hb⟩
    have wb : Hid (Below w.heap.size w wr) := Lib.hid (by rw [← BB.out]; exact hb)
    have sb : Hid (b ≤ wr.heap.size) := Lib.hid (by rw [BB.out]; exact hb.size)
    clear hg hws hd hb hsn
    by_cases hin : k < n ∧ k < 400
    · have hlt' : (k : Int) < (n : Int) := by omega
      have h60' : (k : Int) < 400 := by omega
      obtain ⟨o, ho⟩ : ∃ o, l[k]? = some o := ⟨_, List.getElem?_eq_getElem (by rw [← NN.out]; exact hin.1)⟩
      obtain ⟨hAt, bb, off, rfl, _, cx⟩ := ops_at (V.out.below wb.out) ho
      have PL := Lib.hid (play_lit R.out.2.2.2.1 (by have := R.out.2.1; omega) o hAt)
      have x0 := cx 0 _ rfl
      have x1 := cx 1 _ rfl
      have x2 := cx 2 _ rfl
      have x3 := cx 3 _ rfl
      have x4 := cx 4 _ rfl
      have x5 := cx 5 _ rfl
      have x6 := cx 6 _ rfl
      have x7 := cx 7 _ rfl
      rw [Nat.add_zero] at x0
      clear hAt cx ho
      go_wp2_with fail
      refine PL.out.mono ?_
      rintro e w5 ⟨s5, r, rfl, hl5, hs5⟩
      have b5 : Hid (Below b wr w5) := Lib.hid (hl5.below R.out.2.2.2.1 sb.out)
      have ST := Lib.hid hs5
      obtain ⟨cv5, hd5, hk5, _⟩ := hl5
      have D5 := Lib.hid hd5
      clear hd5 hk5 hs5 PL x0 x1 x2 x3 x4 x5 x6 x7
      go_wp2_with fail
      go_roundg (n - (k + 1))
      case measure => have := R.out.1; omega
      case rel => exact ⟨k + 1, s5, cv5, by omega, by omega, rfl, by go_num, by have h1 := step_ws ST.out; have h2 := R.out.2.1; omega, by rw [step_n ST.out]; exact R.out.2.2.1, D5.out, R.out.2.2.2.2.trans b5.out⟩
    · have hlt' : (k : Int) < (n : Int) := by omega
      have h60' : ¬ (k : Int) < 400 := by omega
      clear hin
      have CR := Lib.hid (crash_any R.out.2.2.2.1 (by have := R.out.2.1; omega) (.slice none 0 0) [] (fun w' _ => ⟨none, 0, rfl, by simp, by decide, fun _ => rfl, fun k hk => by simp at hk⟩))
      go_wp2_with fail
      refine CR.out.mono ?_
      rintro e w2 ⟨rfl, hd2, hk2⟩
      have S2 := Lib.hid (st_next R.out.2.2.2.1 R.out.2.2.2.2 sb.out hd2 (hk2.mono (fun k _ h => foot3 cv k h))).1
      have MD := Lib.hid (medium_any hd2)
      obtain ⟨M, hM⟩ : ∃ M, M = (crD s []).med := ⟨_, rfl⟩
      have e64 : 512 * (crD s []).n = 32768 := by show 512 * s.n = _; rw [R.out.2.2.1]
      have ML : Hid (M.length = 32768) := Lib.hid (by rw [hM, hd2.fit.len, e64])
      rw [← hM, e64] at MD
      obtain ⟨s2, hs2⟩ : ∃ s2, s2 = crD s [] := ⟨_, rfl⟩
      have Z0 : Hid (Lz fs M 0 s2 [] []) := Lib.hid (by
        rw [hs2]
        exact ⟨rfl, rfl, R.out.2.2.1, hM.symm, by show s.ws ≤ 401 + 0; have := R.out.2.1; omega, rfl, rfl, by simp, by simp, lv_nil fs M ML.out⟩)
      rw [← hs2] at S2
      clear hd2 hk2 hM e64 hs2 CR
      go_wp2_with fail
      refine MD.out.mono ?_
      rintro e w3 ⟨rfl, ho3, hb3⟩
      obtain ⟨vb, hvb⟩ : ∃ vb, vb = w2.heap.size := ⟨_, rfl⟩
      rw [← hvb] at ho3 hb3 ⊢
      have L0 : Hid (Lq b w w3 s2 (.slice (some ⟨vb, 0, none⟩) 32768 32768) M (.slice none 0 0) (.slice none 0 0) (.slice none 0 0) (.slice none 0 0) [] [] [] [] [] []) := Lib.hid (by
        have st := S2.out
        rw [hvb] at hb3
        have st3 := (st_below st hb3).1
        exact ⟨st3.1, st3.2.1, st3.2.2, ho3.mono (by rw [hvb]; exact st.2.2), ⟨World.ownsRow_nil _ _ _ _, rfl, by simp⟩, ⟨World.ownsRow_nil _ _ _ _, rfl, by simp⟩, World.ownsRow_nil _ _ _ _, World.ownsRow_nil _ _ _ _, fun k h => (by cases h), fun k h => (by cases h)⟩)
      clear ho3 hb3 MD hvb S2 R wb sb
      go_wp2_with fail
      go_loopg [10, 11, 12, 13, 14] n' (fun g t10 t11 t12 t13 t14 wr => ∃ (k2 : Nat) (s3 : DS) (a10 : Option Addr) (n10 c10 : Nat) (a11 : Option Addr) (n11 c11 : Nat) (a12 : Option Addr) (n12 c12 : Nat) (a13 : Option Addr) (n13 c13 : Nat) (u1 u2 : List Value) (one two : List (List UInt8 × (Int × Int))), k2 ≤ n' ∧ k2 ≤ 20 ∧ g = n' - k2 ∧ t10 = .slice a10 n10 c10 ∧ t11 = .slice a11 n11 c11 ∧ t12 = .slice a12 n12 c12 ∧ t13 = .slice a13 n13 c13 ∧ t14 = .int .i64 k2 ∧ Lq b w wr s3 (.slice (some ⟨vb, 0, none⟩) 32768 32768) M (.slice a10 n10 c10) (.slice a11 n11 c11) (.slice a12 n12 c12) (.slice a13 n13 c13) u1 u2 (one.map (·.1)) (two.map (·.1)) (one.map (·.2)) (two.map (·.2)) ∧ Lz fs M k2 s3 one two)
      case atStart => exact ⟨0, s2, none, 0, 0, none, 0, 0, none, 0, 0, none, 0, 0, [], [], [], [], Nat.zero_le _, Nat.zero_le _, rfl, rfl, rfl, rfl, rfl, rfl, L0.out, Z0.out⟩
      case round =>
        obtain ⟨k2, s3, a10, n10, c10, a11, n11, c11, a12, n12, c12, a13, n13, c13, u1, u2, one, two, hk2, hk20, hg2, rfl, rfl, rfl, rfl, rfl, hL, hZ⟩ := hrel
        have G2 : Hid (gk = n' - k2) := Lib.hid hg2
        have LL := Lib.hid hL
        have ZZ := Lib.hid hZ
        clear hg2 hL hZ
        by_cases hin2 : k2 < n' ∧ k2 < 20
        · have hlt2 : (k2 : Int) < (n' : Int) := by omega
          have h202 : (k2 : Int) < 20 := by omega
          go_wp2_with fail
          refine (full_of _ (UInt8.ofNat ((17 * k2 + 3) % 256)) (by rw [c8_of _ (Nat.mod_lt _ (by decide))]; omega) wr).mono ?_
          rintro e w4 ⟨p, hp, rfl, ho4, hb4⟩
          have P5 : Hid (p.length = 512) := Lib.hid (by rw [hp]; exact List.length_replicate)
          obtain ⟨xb, hxb⟩ : ∃ xb, xb = wr.heap.size := ⟨_, rfl⟩
          have L4 := Lib.hid (LL.out.below hb4)
          have X4 : Hid (Own b w4 (.slice (some ⟨xb, 0, none⟩) 512 512) p) := Lib.hid (by rw [hxb]; exact ho4.mono LL.out.sz)
          rw [← hxb]
          have bw4 : Hid (Below w.heap.size w w4) := Lib.hid (by have := L4.out.bel; rw [BB.out] at this; exact this)
          obtain ⟨bo, oo, q, rfl, hbo, co⟩ := bools_at V'.out bw4.out hin2.1
          have co' : ∀ ob, (w4.alloc ob).cell? ⟨bo, oo + k2, none⟩ = some (.bool q) := fun ob => by
            rw [((Below.refl w4.heap.size w4).alloc (Nat.le_refl _) ob).cell (p := ⟨bo, oo + k2, none⟩) (Nat.lt_of_lt_of_le hbo bw4.out.size)]; exact co
          have U1 : Hid (u1.length ≤ 20 ∧ u2.length ≤ 20 ∧ (one.map (·.2)).length ≤ 20 ∧ (two.map (·.2)).length ≤ 20) := Lib.hid (by
            have h1 := LL.out.l1.2.1
            have h2 := LL.out.l2.2.1
            have h3 := ZZ.out.sum
            simp only [List.length_map] at h1 h2 ⊢
            omega)
          clear hp hxb ho4 hb4 co hbo
          by_cases hk3 : k2 < n3
          · have hk3' : (k2 : Int) < (n3 : Int) := by omega
            obtain ⟨f1, f2, hf⟩ : ∃ f1 f2, fateAt fs k2 = (f1, f2) := ⟨_, _, rfl⟩
            have FF := Lib.hid hf
            obtain ⟨bf, off3, rfl, fc1, fc2⟩ := fts_at V3.out.1 bw4.out hk3 hf
            have fc1' : ∀ ob, (w4.alloc ob).cell? ⟨bf, off3 + k2 * 2, none⟩ = some (.int .i64 f1) := fun ob => by
              rw [((Below.refl w4.heap.size w4).alloc (Nat.le_refl _) ob).cell (p := ⟨bf, off3 + k2 * 2, none⟩) (block_lt_of_cell fc1)]; exact fc1
            have fc2' : ∀ ob, (w4.alloc ob).cell? ⟨bf, off3 + k2 * 2 + 1, none⟩ = some (.int .i64 f2) := fun ob => by
              rw [((Below.refl w4.heap.size w4).alloc (Nat.le_refl _) ob).cell (p := ⟨bf, off3 + k2 * 2 + 1, none⟩) (block_lt_of_cell fc2)]; exact fc2
            clear hf fc1 fc2
            have LX : Hid (Lq b w (w4.alloc (.cells #[.int .i64 f1, .int .i64 f2] 57)) s3 (.slice (some ⟨vb, 0, none⟩) 32768 32768) M (.slice a10 n10 c10) (.slice a11 n11 c11) (.slice a12 n12 c12) (.slice a13 n13 c13) u1 u2 (one.map (·.1)) (two.map (·.1)) (one.map (·.2)) (two.map (·.2))) := Lib.hid (L4.out.below ((Below.refl _ _).alloc (Nat.le_refl _) _))
            have XX : Hid (Own b (w4.alloc (.cells #[.int .i64 f1, .int .i64 f2] 57)) (.slice (some ⟨xb, 0, none⟩) 512 512) p) := Lib.hid (X4.out.below ((Below.refl _ _).alloc (Nat.le_refl _) _))
            cases q with
            | true =>
              go_wp2_with (at_builtin; go_loud (refine app_blk (B := b) (w0 := w4.alloc (.cells #[.int .i64 f1, .int .i64 f2] 57)) (v := .slice a11 n11 c11) (us := u2) rfl (.tmp 72) (.tmp 74) rfl rfl LX.out.l2.1 LX.out.sz (.slice (some ⟨xb, 0, none⟩) 512 512) rfl (w4.heap.size + 1) (by simp) rfl (by have := U1.out; omega) ?_))
              intro v6 w6 h6
              have L6 := Lib.hid (LX.out.app2 XX.out (by rw [List.length_append]; exact h6.out.1) h6.out.2.1 h6.out.2.2)
              have F6 := Lib.hid ((grown_kept h6.out.2.1).block w4.heap.size (by simp) (fun e => by have := row_lt L4.out.l2.1 _ e.symm; omega))
              obtain ⟨q0, q1⟩ := fate_cells (F6.out.trans (heap_alloc_new _ _))
              obtain ⟨a6, n6, c6, rfl⟩ := row_slice h6.out.1
              clear h6 co' fc1' fc2'
              go_wp2_with (at_builtin; go_loud (refine app_fat (B := b) (w0 := w6) (v := .slice a13 n13 c13) (fs := two.map (·.2)) rfl (.tmp 76) (.tmp 78) rfl rfl L6.out.l4 L6.out.sz f1 f2 rfl (by have := U1.out; omega) ?_))
              intro v7 w7 h7
              have L7 := Lib.hid (L6.out.app4 (by have q := h7.out.1; simp only [OwnF, List.length_append, List.length_map, List.length_singleton]; simpa only [List.length_append, List.length_map, List.length_singleton] using q) h7.out.2.1 h7.out.2.2)
              obtain ⟨a7, n7, c7, rfl⟩ := row_slice h7.out.1
              have X7 := Lib.hid (last_own L7.out.l2)
              have E7 : Hid (Own w7.heap.size w7 (.slice none 0 0) []) := Lib.hid (World.ownsRow_nil _ _ _ _)
              clear h7 q0 q1
              go_wp2_with (at_builtin; go_loud (refine app_bytes (B := w7.heap.size) (v := .slice none 0 0) (l := []) (m := p) rfl (.const (.slice none 0 0)) (.tmp 90) rfl rfl E7.out (Nat.le_refl _) rfl X7.out.bytes (by rw [P5.out]; decide) ?_))
              intro v8 w8 h1 h2 _
              have X8 : Hid (Own w7.heap.size w8 v8 p) := Lib.hid (by simpa using h1)
              have L8 := Lib.hid (L7.out.below ((Below.refl _ w7).grown h2 (Nat.le_refl _) (by intro k hk; cases hk)))
              obtain ⟨a8, n8, c8', rfl⟩ := row_slice X8.out
              have WR := Lib.hid (L8.out.write ZZ.out.armed ZZ.out.down ZZ.out.n (by have := ZZ.out.ws; omega) 8 (by decide) _ p X8.out P5.out)
              clear h1 h2
              go_wp2_with fail
              refine WR.out.mono ?_
              rintro e w9 ⟨rfl, hL9⟩
              have L9 := Lib.hid hL9
              clear hL9 WR
              go_wp2_with fail
              go_roundg (n' - (k2 + 1))
              case measure => have := G2.out; omega
              case rel => exact ⟨k2 + 1, _, a10, n10, c10, a6, n6, c6, a12, n12, c12, a7, n7, c7, u1, u2 ++ [_], one, two ++ [(p, (f1, f2))], by omega, by omega, rfl, rfl, rfl, rfl, rfl, by go_num, by simpa only [List.map_append, List.map_cons, List.map_nil] using L9.out, by have := ZZ.out.two p P5.out; rw [FF.out] at this; exact this⟩
            | false =>
              go_wp2_with (at_builtin; go_loud (refine app_blk (B := b) (w0 := w4.alloc (.cells #[.int .i64 f1, .int .i64 f2] 57)) (v := .slice a10 n10 c10) (us := u1) rfl (.tmp 80) (.tmp 82) rfl rfl LX.out.l1.1 LX.out.sz (.slice (some ⟨xb, 0, none⟩) 512 512) rfl (w4.heap.size + 1) (by simp) rfl (by have := U1.out; omega) ?_))
              intro v6 w6 h6
              have L6 := Lib.hid (LX.out.app1 XX.out (by rw [List.length_append]; exact h6.out.1) h6.out.2.1 h6.out.2.2)
              have F6 := Lib.hid ((grown_kept h6.out.2.1).block w4.heap.size (by simp) (fun e => by have := row_lt L4.out.l1.1 _ e.symm; omega))
              obtain ⟨q0, q1⟩ := fate_cells (F6.out.trans (heap_alloc_new _ _))
              obtain ⟨a6, n6, c6, rfl⟩ := row_slice h6.out.1
              clear h6 co' fc1' fc2'
              go_wp2_with (at_builtin; go_loud (refine app_fat (B := b) (w0 := w6) (v := .slice a12 n12 c12) (fs := one.map (·.2)) rfl (.tmp 84) (.tmp 86) rfl rfl L6.out.l3 L6.out.sz f1 f2 rfl (by have := U1.out; omega) ?_))
              intro v7 w7 h7
              have L7 := Lib.hid (L6.out.app3 (by have q := h7.out.1; simp only [OwnF, List.length_append, List.length_map, List.length_singleton]; simpa only [List.length_append, List.length_map, List.length_singleton] using q) h7.out.2.1 h7.out.2.2)
              obtain ⟨a7, n7, c7, rfl⟩ := row_slice h7.out.1
              have X7 := Lib.hid (last_own L7.out.l1)
              have E7 : Hid (Own w7.heap.size w7 (.slice none 0 0) []) := Lib.hid (World.ownsRow_nil _ _ _ _)
              clear h7 q0 q1
              go_wp2_with (at_builtin; go_loud (refine app_bytes (B := w7.heap.size) (v := .slice none 0 0) (l := []) (m := p) rfl (.const (.slice none 0 0)) (.tmp 90) rfl rfl E7.out (Nat.le_refl _) rfl X7.out.bytes (by rw [P5.out]; decide) ?_))
              intro v8 w8 h1 h2 _
              have X8 : Hid (Own w7.heap.size w8 v8 p) := Lib.hid (by simpa using h1)
              have L8 := Lib.hid (L7.out.below ((Below.refl _ w7).grown h2 (Nat.le_refl _) (by intro k hk; cases hk)))
              obtain ⟨a8, n8, c8', rfl⟩ := row_slice X8.out
              have WR := Lib.hid (L8.out.write ZZ.out.armed ZZ.out.down ZZ.out.n (by have := ZZ.out.ws; omega) 7 (by decide) _ p X8.out P5.out)
              clear h1 h2
              go_wp2_with fail
              refine WR.out.mono ?_
              rintro e w9 ⟨rfl, hL9⟩
              have L9 := Lib.hid hL9
              clear hL9 WR
              go_wp2_with fail
              go_roundg (n' - (k2 + 1))
              case measure => have := G2.out; omega
              case rel => exact ⟨k2 + 1, _, a6, n6, c6, a11, n11, c11, a7, n7, c7, a13, n13, c13, u1 ++ [_], u2, one ++ [(p, (f1, f2))], two, by omega, by omega, rfl, rfl, rfl, rfl, rfl, by go_num, by simpa only [List.map_append, List.map_cons, List.map_nil] using L9.out, by have := ZZ.out.one p P5.out; rw [FF.out] at this; exact this⟩
          · have hk3' : ¬ (k2 : Int) < (n3 : Int) := by omega
            have FF : Hid (fateAt fs k2 = (0, 0)) := Lib.hid (by unfold fateAt; rw [List.getD_eq_getElem?_getD, List.getElem?_eq_none (by rw [← NN3.out.1]; omega)]; rfl)
            have LX : Hid (Lq b w (w4.alloc (.cells #[.int .i64 0, .int .i64 0] 57)) s3 (.slice (some ⟨vb, 0, none⟩) 32768 32768) M (.slice a10 n10 c10) (.slice a11 n11 c11) (.slice a12 n12 c12) (.slice a13 n13 c13) u1 u2 (one.map (·.1)) (two.map (·.1)) (one.map (·.2)) (two.map (·.2))) := Lib.hid (L4.out.below ((Below.refl _ _).alloc (Nat.le_refl _) _))
            have XX : Hid (Own b (w4.alloc (.cells #[.int .i64 0, .int .i64 0] 57)) (.slice (some ⟨xb, 0, none⟩) 512 512) p) := Lib.hid (X4.out.below ((Below.refl _ _).alloc (Nat.le_refl _) _))
            cases q with
            | true =>
              go_wp2_with (at_builtin; go_loud (refine app_blk (B := b) (w0 := w4.alloc (.cells #[.int .i64 0, .int .i64 0] 57)) (v := .slice a11 n11 c11) (us := u2) rfl (.tmp 72) (.tmp 74) rfl rfl LX.out.l2.1 LX.out.sz (.slice (some ⟨xb, 0, none⟩) 512 512) rfl (w4.heap.size + 1) (by simp) rfl (by have := U1.out; omega) ?_))
              intro v6 w6 h6
              have L6 := Lib.hid (LX.out.app2 XX.out (by rw [List.length_append]; exact h6.out.1) h6.out.2.1 h6.out.2.2)
              have F6 := Lib.hid ((grown_kept h6.out.2.1).block w4.heap.size (by simp) (fun e => by have := row_lt L4.out.l2.1 _ e.symm; omega))
              obtain ⟨q0, q1⟩ := fate_cells (F6.out.trans (heap_alloc_new _ _))
              obtain ⟨a6, n6, c6, rfl⟩ := row_slice h6.out.1
              clear h6 co' 
              go_wp2_with (at_builtin; go_loud (refine app_fat (B := b) (w0 := w6) (v := .slice a13 n13 c13) (fs := two.map (·.2)) rfl (.tmp 76) (.tmp 78) rfl rfl L6.out.l4 L6.out.sz 0 0 rfl (by have := U1.out; omega) ?_))
              intro v7 w7 h7
              have L7 := Lib.hid (L6.out.app4 (by have q := h7.out.1; simp only [OwnF, List.length_append, List.length_map, List.length_singleton]; simpa only [List.length_append, List.length_map, List.length_singleton] using q) h7.out.2.1 h7.out.2.2)
              obtain ⟨a7, n7, c7, rfl⟩ := row_slice h7.out.1
              have X7 := Lib.hid (last_own L7.out.l2)
              have E7 : Hid (Own w7.heap.size w7 (.slice none 0 0) []) := Lib.hid (World.ownsRow_nil _ _ _ _)
              clear h7 q0 q1
              go_wp2_with (at_builtin; go_loud (refine app_bytes (B := w7.heap.size) (v := .slice none 0 0) (l := []) (m := p) rfl (.const (.slice none 0 0)) (.tmp 90) rfl rfl E7.out (Nat.le_refl _) rfl X7.out.bytes (by rw [P5.out]; decide) ?_))
              intro v8 w8 h1 h2 _
              have X8 : Hid (Own w7.heap.size w8 v8 p) := Lib.hid (by simpa using h1)
              have L8 := Lib.hid (L7.out.below ((Below.refl _ w7).grown h2 (Nat.le_refl _) (by intro k hk; cases hk)))
              obtain ⟨a8, n8, c8', rfl⟩ := row_slice X8.out
              have WR := Lib.hid (L8.out.write ZZ.out.armed ZZ.out.down ZZ.out.n (by have := ZZ.out.ws; omega) 8 (by decide) _ p X8.out P5.out)
              clear h1 h2
              go_wp2_with fail
              refine WR.out.mono ?_
              rintro e w9 ⟨rfl, hL9⟩
              have L9 := Lib.hid hL9
              clear hL9 WR
              go_wp2_with fail
              go_roundg (n' - (k2 + 1))
              case measure => have := G2.out; omega
              case rel => exact ⟨k2 + 1, _, a10, n10, c10, a6, n6, c6, a12, n12, c12, a7, n7, c7, u1, u2 ++ [_], one, two ++ [(p, (0, 0))], by omega, by omega, rfl, rfl, rfl, rfl, rfl, by go_num, by simpa only [List.map_append, List.map_cons, List.map_nil] using L9.out, by have := ZZ.out.two p P5.out; rw [FF.out] at this; exact this⟩
            | false =>
              go_wp2_with (at_builtin; go_loud (refine app_blk (B := b) (w0 := w4.alloc (.cells #[.int .i64 0, .int .i64 0] 57)) (v := .slice a10 n10 c10) (us := u1) rfl (.tmp 80) (.tmp 82) rfl rfl LX.out.l1.1 LX.out.sz (.slice (some ⟨xb, 0, none⟩) 512 512) rfl (w4.heap.size + 1) (by simp) rfl (by have := U1.out; omega) ?_))
              intro v6 w6 h6
              have L6 := Lib.hid (LX.out.app1 XX.out (by rw [List.length_append]; exact h6.out.1) h6.out.2.1 h6.out.2.2)
              have F6 := Lib.hid ((grown_kept h6.out.2.1).block w4.heap.size (by simp) (fun e => by have := row_lt L4.out.l1.1 _ e.symm; omega))
              obtain ⟨q0, q1⟩ := fate_cells (F6.out.trans (heap_alloc_new _ _))
              obtain ⟨a6, n6, c6, rfl⟩ := row_slice h6.out.1
              clear h6 co' 
              go_wp2_with (at_builtin; go_loud (refine app_fat (B := b) (w0 := w6) (v := .slice a12 n12 c12) (fs := one.map (·.2)) rfl (.tmp 84) (.tmp 86) rfl rfl L6.out.l3 L6.out.sz 0 0 rfl (by have := U1.out; omega) ?_))
              intro v7 w7 h7
              have L7 := Lib.hid (L6.out.app3 (by have q := h7.out.1; simp only [OwnF, List.length_append, List.length_map, List.length_singleton]; simpa only [List.length_append, List.length_map, List.length_singleton] using q) h7.out.2.1 h7.out.2.2)
              obtain ⟨a7, n7, c7, rfl⟩ := row_slice h7.out.1
              have X7 := Lib.hid (last_own L7.out.l1)
              have E7 : Hid (Own w7.heap.size w7 (.slice none 0 0) []) := Lib.hid (World.ownsRow_nil _ _ _ _)
              clear h7 q0 q1
              go_wp2_with (at_builtin; go_loud (refine app_bytes (B := w7.heap.size) (v := .slice none 0 0) (l := []) (m := p) rfl (.const (.slice none 0 0)) (.tmp 90) rfl rfl E7.out (Nat.le_refl _) rfl X7.out.bytes (by rw [P5.out]; decide) ?_))
              intro v8 w8 h1 h2 _
              have X8 : Hid (Own w7.heap.size w8 v8 p) := Lib.hid (by simpa using h1)
              have L8 := Lib.hid (L7.out.below ((Below.refl _ w7).grown h2 (Nat.le_refl _) (by intro k hk; cases hk)))
              obtain ⟨a8, n8, c8', rfl⟩ := row_slice X8.out
              have WR := Lib.hid (L8.out.write ZZ.out.armed ZZ.out.down ZZ.out.n (by have := ZZ.out.ws; omega) 7 (by decide) _ p X8.out P5.out)
              clear h1 h2
              go_wp2_with fail
              refine WR.out.mono ?_
              rintro e w9 ⟨rfl, hL9⟩
              have L9 := Lib.hid hL9
              clear hL9 WR
              go_wp2_with fail
              go_roundg (n' - (k2 + 1))
              case measure => have := G2.out; omega
              case rel => exact ⟨k2 + 1, _, a6, n6, c6, a11, n11, c11, a7, n7, c7, a13, n13, c13, u1 ++ [_], u2, one ++ [(p, (0, 0))], two, by omega, by omega, rfl, rfl, rfl, rfl, rfl, by go_num, by simpa only [List.map_append, List.map_cons, List.map_nil] using L9.out, by have := ZZ.out.one p P5.out; rw [FF.out] at this; exact this⟩
        · have hlt2 : (k2 : Int) < (n' : Int) := by omega
          have h202 : ¬ (k2 : Int) < 20 := by omega
          clear hin2
          have FT : Hid (Fts wr (.slice a3 n3 cap3) fs ∧ fs.length * 16 ≤ 140737488355328) := Lib.hid ⟨V3.out.1.below (by rw [← BB.out]; exact LL.out.bel), by rw [← NN3.out.1]; exact NN3.out.2⟩
          go_wp2_with (at_builtin; go_loud (refine copy_fts (v := .slice a3 n3 cap3) (fs := fs) rfl (.const (.slice none 0 0)) (.tmp 95) rfl rfl FT.out.1 rfl FT.out.2 ?_))
          intro v8 w8 h8
          have L8 := Lib.hid (LL.out.below h8.out.2)
          have H8 : Hid (OwnF wr.heap.size w8 v8 fs) := Lib.hid (by have q := h8.out.1; exact q)
          obtain ⟨a8, n8, c8', rfl⟩ := row_slice H8.out
          have CR := Lib.hid (L8.out.crash (by have := ZZ.out.ws; omega) _ fs H8.out)
          clear h8
          go_wp2_with fail
          refine CR.out.mono ?_
          rintro e w9 ⟨rfl, hL9⟩
          obtain ⟨s9, hs9⟩ : ∃ s9, s9 = crD s3 fs := ⟨_, rfl⟩
          obtain ⟨M9, hM9⟩ : ∃ M9, M9 = s9.med := ⟨_, rfl⟩
          have S9 : Hid (s9.n = 64 ∧ s9.down = false ∧ s9.cache = [] ∧ s9.ws ≤ 500) := Lib.hid (by rw [hs9]; exact ⟨ZZ.out.n, rfl, rfl, by show s3.ws ≤ 500; have := ZZ.out.ws; omega⟩)
          have R9 : Hid (M9.length = 32768 ∧ raw M9 7 = overL (raw M 7) one ∧ raw M9 8 = overL (raw M 8) two ∧ M9.take 3584 = M.take 3584 ∧ M9.drop 4608 = M.drop 4608) := Lib.hid (by
            have e : M9 = sets (fateAt fs) 0 s3.cache M := by rw [hM9, hs9]; show sets (fateAt fs) 0 s3.cache s3.med = _; rw [ZZ.out.med]
            exact ⟨by rw [e]; exact ZZ.out.r.len, by rw [e]; exact ZZ.out.r.r7, by rw [e]; exact ZZ.out.r.r8, by rw [e]; exact ZZ.out.r.lo, by rw [e]; exact ZZ.out.r.hi⟩)
          rw [← hs9] at hL9
          have MD := Lib.hid (hL9.medium S9.out.1)
          rw [← hM9] at MD
          clear hL9 CR hs9 hM9
          go_wp2_with fail
          refine MD.out.mono ?_
          rintro e w10 ⟨rfl, ho10, hL10, hb10⟩
          obtain ⟨ib, hib⟩ : ∃ ib, ib = w9.heap.size := ⟨_, rfl⟩
          rw [← hib] at ho10 ⊢
          have L10 := Lib.hid hL10
          have I10 := Lib.hid ho10
          obtain ⟨cv10, hd10⟩ := hL10.dv
          have D10 := Lib.hid hd10
          have PN := Lib.hid (pending_any hd10 (by have := S9.out.2.2.2; omega))
          rw [S9.out.2.2.1] at PN
          clear ho10 hL10 hb10 hib MD hd10
          go_wp2_with fail
          refine PN.out.mono ?_
          rintro e w11 ⟨vp, rfl, hop, hbp⟩
          obtain ⟨ap, cp, rfl⟩ := row_len hop
          have L11 := Lib.hid (L10.out.below hbp)
          have I11 := Lib.hid (I10.out.below hbp)
          have DN := Lib.hid (down_any (D10.out.below hbp))
          rw [S9.out.2.1] at DN
          clear hop hbp PN D10
          go_wp2_with fail
          refine DN.out.mono ?_
          rintro e w11 ⟨rfl, rfl⟩
          have OV := Lib.hid (over_any (.slice (some ⟨vb, 3584, none⟩) 512 29184) _ _ (raw M 7) one w11 (bytes_mid L11.out.m.bytes ML.out rfl (by decide) (by decide) (by decide)) (raw_length M 7 (by rw [ML.out]; decide)) L11.out.l1.blks (fts_own L11.out.l3) ZZ.out.o5 (by have := ZZ.out.sum; omega))
          clear DN
          go_wp2_with fail
          refine OV.out.mono ?_
          rintro e w12 ⟨vx, rfl, hox, hbx⟩
          have L12 := Lib.hid (L11.out.below hbx)
          have I12 := Lib.hid (I11.out.below hbx)
          have X12 := Lib.hid hox
          obtain ⟨ax, nx, cx', rfl⟩ := row_slice hox
          have OV := Lib.hid (over_any (.slice (some ⟨vb, 4096, none⟩) 512 28672) _ _ (raw M 8) two w12 (bytes_mid L12.out.m.bytes ML.out rfl (by decide) (by decide) (by decide)) (raw_length M 8 (by rw [ML.out]; decide)) L12.out.l2.blks (fts_own L12.out.l4) ZZ.out.t5 (by have := ZZ.out.sum; omega))
          clear hox hbx
          go_wp2_with fail
          refine OV.out.mono ?_
          rintro e w13 ⟨vy, rfl, hoy, hby⟩
          have L13 := Lib.hid (L12.out.below hby)
          have I13 := Lib.hid (I12.out.below hby)
          have X13 := Lib.hid (X12.out.below hby)
          have Y13 := Lib.hid hoy
          obtain ⟨ay, ny, cy', rfl⟩ := row_slice hoy
          have SA := Lib.hid (fun n => same_true (W := w13) (v := .slice (some ⟨ib, 3584, none⟩) 512 29184) (v' := .slice ax nx cx') (l := overL (raw M 7) one) (bytes_mid I13.out.bytes R9.out.1 (by rw [← R9.out.2.1]; rfl) (by decide) (by decide) (by decide)) X13.out.bytes n)
          have SB := Lib.hid (fun n => same_true (W := w13) (v := .slice (some ⟨ib, 4096, none⟩) 512 28672) (v' := .slice ay ny cy') (l := overL (raw M 8) two) (bytes_mid I13.out.bytes R9.out.1 (by rw [← R9.out.2.2.1]; rfl) (by decide) (by decide) (by decide)) Y13.out.bytes n)
          have SC := Lib.hid (fun n => same_true (W := w13) (v := .slice (some ⟨ib, 0, none⟩) 3584 32768) (v' := .slice (some ⟨vb, 0, none⟩) 3584 32768) (l := M.take 3584) (bytes_mid I13.out.bytes R9.out.1 (by rw [← R9.out.2.2.2.1]; rfl) (by decide) (by decide) (by decide)) (bytes_mid L13.out.m.bytes ML.out rfl (by decide) (by decide) (by decide)) n)
          have SD := Lib.hid (fun n => same_true (W := w13) (v := .slice (some ⟨ib, 4608, none⟩) 28160 28160) (v' := .slice (some ⟨vb, 4608, none⟩) 28160 28160) (l := M.drop 4608) (bytes_mid I13.out.bytes R9.out.1 (by rw [← R9.out.2.2.2.2, List.take_of_length_le (by rw [List.length_drop, R9.out.1]; decide)]) (by decide) (by decide) (by decide)) (bytes_mid L13.out.m.bytes ML.out (by rw [List.take_of_length_le (by rw [List.length_drop, ML.out]; decide)]) (by decide) (by decide) (by decide)) n)
          clear hoy hby
          go_wp2_with fail
          go_quiet (first | (go_at_call 15; first | refine Calls.quiet_of_same (SA.out _) | refine Calls.quiet_of_same (SB.out _) | refine Calls.quiet_of_same (SC.out _) | refine Calls.quiet_of_same (SD.out _)))
          go_wp2_with fail
          go_ret
          exact ⟨rfl, L13.out.bel.trans ⟨rfl, rfl, rfl, Nat.le_refl _, fun _ _ => rfl⟩⟩
end Go.Proofs.Ytlnjclabnpenmaa
