/-
  pushed: the walk.
-/
import Derived.Test.YtoocpbpdoaplgaaDoorWtL
namespace Go.Proofs.YtoocpbpdoaplgaaDoor
open Go.RowKit
namespace Wt
set_option maxHeartbeats 32000000 in
set_option maxRecDepth 100000 in
theorem pushed_any (m : Ev) (version : Int) (u : Value) (ps : List (List Ev)) (w : World) (hG : Gl m w) (hN : Nst w u ps) (hv : -9223372036854775808 ≤ version ∧ version ≤ 9223372036854775807) :
    Calls Tryd.prog 10 #[.int .i64 version, u] w fun e w' => (e = .returned (.tuple #[.pointer none, .bool true]) ∧ Below w.heap.size w w') ∨
      ∃ gp g v vL s A, e = .returned (.tuple #[.pointer (some ⟨gp, 0, none⟩), .bool true]) ∧ Pd w w' gp g v vL (max version 0) s A ∧ s.hi ≤ 576460752303423888 ∧ A.length ≤ 120000 := by
  have G := Lib.hid hG
  have NN := Lib.hid hN
  obtain ⟨a, cap, rfl, hlc, hcm⟩ := hN.len
  unfold maxLen at hcm
  obtain ⟨n, hn⟩ : ∃ n, n = ps.length := ⟨_, rfl⟩
  rw [← hn] at hlc NN ⊢
  have HN := Lib.hid hn
  clear hn hG hN
  have NW := Lib.hid (Hl.new (Below.refl w.heap.size w) version)
  obtain ⟨f, hf⟩ : ∃ f, f = max version 0 := ⟨_, rfl⟩
  rw [← hf]
  have FV := Lib.hid hf
  clear hf
  go_enter Tryd.func10, Tryd.ntmps10
  go_wp2_with fail
  refine NW.out.mono ?_
  rintro e w1 ⟨rfl, h1, hb1⟩
  obtain ⟨g, hg⟩ : ∃ g, g = w.heap.size := ⟨_, rfl⟩
  rw [← hg] at h1 ⊢
  have H1 := Lib.hid h1
  have B1 := Lib.hid hb1
  clear h1 hg NW hb1
  by_cases hbig : version > 576460752303423488
  · have hpos : ¬ version < 0 := by omega
    have AL := (below_alR w1)
    go_wp2_with fail
    go_ret2
    refine .inl ⟨rfl, ?_⟩
    exact B1.out.trans ((AL.out _).mono B1.out.size)
  have hf0 : 0 ≤ f := by have := FV.out; omega
  have hf1 : f ≤ 576460752303423488 := by have := FV.out; omega
  have PD : Hid (Pd w (w1.alloc (.cells #[.pointer (some ⟨g, 0, none⟩), .int .i64 f, .slice none 0 0] 30)) w1.heap.size g (.slice none 0 0) (.slice none 0 0) f ⟨f, f, []⟩ []) := Lib.hid (by
    have e : min (max version 0) 1152921504606846976 = f := by rw [← FV.out]; omega
    have h := H1.out
    rw [e] at h
    exact ⟨heap_alloc_new _ _, h.below ((below_alR w1).out _), OwnR.nil _ _ _, B1.out.size, (fun k hk => by simp [Value.ownBlock] at hk), Pu.start hf0 (by omega)⟩)
  obtain ⟨gp, hgp⟩ : ∃ gp, gp = w1.heap.size := ⟨_, rfl⟩
  rw [← hgp] at PD
  have hgp' := hgp.symm
  clear hgp
  obtain ⟨n', hn'⟩ : ∃ n', n' = min n 400 := ⟨_, rfl⟩
  have N4 := Lib.hid hn'
  clear hn'
  by_cases hneg : version < 0
  · have EF : Hid (f = 0) := Lib.hid (by have := FV.out; omega)
    go_wp2_with fail
    go_loopg [7, 8] n' (fun gk sn si wr => ∃ (i : Nat) (v vL : Value) (s : St) (A : List Ev), i ≤ n' ∧ gk = n' - i ∧ si = .int .i64 i ∧ sn = .int .i64 (s.hi + 1) ∧ Hid (Pd w wr gp g v vL f s A ∧ s.hi ≤ f + i ∧ A.length ≤ 300 * i))
    case atStart => exact ⟨0, _, _, ⟨f, f, []⟩, [], Nat.zero_le _, rfl, rfl, by simp only [Value.int.injEq, true_and]; have := FV.out; omega, Lib.hid ⟨by have h := PD.out; rw [EF.out] at h ⊢; exact h, by simp, by simp⟩⟩
    case round =>
      clear PD H1 B1
      obtain ⟨i, v, vL, s, A, hi, hgk, rfl, rfl, R⟩ := hrel
      have GK := Lib.hid hgk
      clear hgk
      obtain ⟨w2, rfl⟩ : ∃ w2, w2 = wr := ⟨_, rfl⟩
      obtain ⟨hi1, hhi⟩ : ∃ x, x = s.hi + 1 := ⟨_, rfl⟩
      have SB : Hid (hi1 = s.hi + 1 ∧ 0 ≤ s.hi ∧ s.hi ≤ f + i) := Lib.hid ⟨hhi, by have := R.out.1.h.ok.b; omega, R.out.2.1⟩
      have LE : Hid (A.length ≤ 300 * i ∧ i ≤ 400) := Lib.hid ⟨R.out.2.2, by have := N4.out; omega⟩
      have hb0 : 1 ≤ hi1 := by have := SB.out; omega
      have hb9 : hi1 ≤ 576460752303423889 := by have := SB.out; have := N4.out; omega
      rw [← hhi]
      clear hhi
      by_cases hlt : i < n'
      · have hin : i < n := by have := N4.out; omega
        have hi4 : i < 400 := by have := N4.out; omega
        have hin' : (i : Int) < (n : Int) := by omega
        have hi4' : (i : Int) < 400 := by omega
        obtain ⟨b, off, ra, rc, rfl, q0, rowP⟩ := NN.out.at i (by rw [← HN.out]; exact hin)
        obtain ⟨P, hP⟩ : ∃ P, P = ps.getD i [] := ⟨_, rfl⟩
        rw [← hP] at q0 rowP
        obtain ⟨xa, xc, eP, hlP, hcP⟩ := rowP.len
        simp only [Value.slice.injEq] at eP
        obtain ⟨ea, -, ec⟩ := eP
        subst ea ec
        unfold maxLen at hcP
        obtain ⟨np, hnp⟩ : ∃ np, np = P.length := ⟨_, rfl⟩
        rw [← hnp] at q0 rowP hlP
        have RP : Hid (np = P.length ∧ Row kE w (.slice ra np rc) P ∧ w.cell? ⟨b, off + i, none⟩ = some (.slice ra np rc)) := Lib.hid ⟨hnp, rowP, q0⟩
        clear hnp rowP hP
        have CB : Hid (∀ W : World, Below w2.heap.size w2 W → W.cell? ⟨b, off + i, none⟩ = some (.slice ra np rc) ∧ Row kE W (.slice ra np rc) P ∧ Gl m W ∧ Pd w W gp g v vL f s A) := Lib.hid fun W hb => by
          have hb2 := R.out.1.h.be.trans (hb.mono R.out.1.h.be.size)
          exact ⟨(hb2.cell (block_lt_of_cell RP.out.2.2)).trans RP.out.2.2, RP.out.2.1.below hb2, G.out.below hb2, R.out.1.below hb⟩
        clear q0
        obtain ⟨n2, hn2⟩ : ∃ n2, n2 = min np 300 := ⟨_, rfl⟩
        have N3 := Lib.hid hn2
        clear hn2
        go_wp2_with fail
        go_loopg [9, 10] n2 (fun gj sl sj wr2 => ∃ (j : Nat) (a1 : Option Addr) (n1 c1 : Nat), j ≤ n2 ∧ gj = n2 - j ∧ sj = .int .i64 j ∧ sl = .slice a1 n1 c1 ∧ Hid (OwnR kE w2.heap.size wr2 (.slice a1 n1 c1) (lst P hi1 j) ∧ Below w2.heap.size w2 wr2))
        case atStart => exact ⟨0, none, 0, 0, Nat.zero_le _, rfl, rfl, rfl, Lib.hid ⟨OwnR.nil _ _ _, Below.refl _ _⟩⟩
        case round =>
          obtain ⟨j, a1, n1, c1, hj, hgj, rfl, rfl, I⟩ := hrel
          have GJ := Lib.hid hgj
          clear hgj
          have q0 := (CB.out wr I.out.2).1
          by_cases hjt : j < n2
          · have hjn : j < np := by have := N3.out; omega
            have hj3 : j < 300 := by have := N3.out; omega
            have hjn' : (j : Int) < (np : Int) := by omega
            have hj3' : (j : Int) < 300 := by omega
            have hjP : j < P.length := by rw [← RP.out.1]; exact hjn
            obtain ⟨pb, po, rfl, c0, c1', c2, c3, c4⟩ := row_at (CB.out wr I.out.2).2.1 j hjP
            have LS := Lib.hid (lst_succ P hi1 j hjP)
            have LZ : Hid (((lst P hi1 j).length + 1) * kE.b ≤ 140737488355328) := Lib.hid (by
              have := lst_len P hi1 j
              show (_ + 1) * 56 ≤ _
              omega)
            obtain ⟨y, hy⟩ : ∃ y, y = P.getD j Ev.z := ⟨_, rfl⟩
            rw [← hy] at c0 c1' c2 c3 c4 LS
            clear hy hjP
            obtain ⟨yv, yk, yg, yp, yn⟩ := y
            unfold dt at LS
            simp only at c0 c1' c2 c3 c4 LS
            obtain ⟨X, hX⟩ : ∃ X, X = wr.alloc (.cells #[.int .i64 hi1, .int .i64 yk, .bool yg, .string yp, .string yn] 33) := ⟨_, rfl⟩
            have AX : Hid (Below w2.heap.size w2 X ∧ L.HasM X ∧ OwnR kE w2.heap.size X (.slice a1 n1 c1) (lst P hi1 j)) := Lib.hid (by
              have hb : Below wr.heap.size wr X := by rw [hX]; exact (Below.refl _ wr).alloc (Nat.le_refl _) _
              have hb2 := I.out.2.trans (hb.mono I.out.2.size)
              exact ⟨hb2, (CB.out X hb2).2.2.1.hm, I.out.1.below hb⟩)
            have CX : Hid (∀ W : World, Below X.heap.size X W → ∀ i y, #[Value.int .i64 hi1, .int .i64 yk, .bool yg, .string yp, .string yn][i]? = some y → W.cell? ⟨wr.heap.size, i, none⟩ = some y) := Lib.hid fun W hb i y h => by
              have h1 : X.cell? ⟨wr.heap.size, i, none⟩ = some y := by rw [hX, World.cell?_alloc_new]; exact h
              rw [hb.cell (block_lt_of_cell h1)]; exact h1
            have RA : Hid (Calls Tryd.prog 29 #[.agg #[.int .i64 hi1, .int .i64 yk, .bool yg, .string yp, .string yn]] X fun e w' => e = .returned (.bool (rightB ⟨hi1, yk, yg, yp, yn⟩)) ∧ Below X.heap.size X w') := Lib.hid (lright_any ⟨hi1, yk, yg, yp, yn⟩ X AX.out.2.1)
            have x0 := CX.out X (Below.refl _ _) 0 _ rfl
            have x1 := CX.out X (Below.refl _ _) 1 _ rfl
            have x2 := CX.out X (Below.refl _ _) 2 _ rfl
            have x3 := CX.out X (Below.refl _ _) 3 _ rfl
            have x4 := CX.out X (Below.refl _ _) 4 _ rfl
            have hX' := hX.symm
            clear hX I
            go_wp2_with fail
            refine RA.out.mono ?_
            rintro e w3 ⟨rfl, hb⟩
            have B3 : Hid (Below w2.heap.size w2 w3 ∧ OwnR kE w2.heap.size w3 (.slice a1 n1 c1) (lst P hi1 j)) := Lib.hid ⟨AX.out.1.trans (hb.mono AX.out.1.size), AX.out.2.2.below hb⟩
            have y0 := CX.out w3 hb 0 _ rfl
            have y1 := CX.out w3 hb 1 _ rfl
            have y2 := CX.out w3 hb 2 _ rfl
            have y3 := CX.out w3 hb 3 _ rfl
            have y4 := CX.out w3 hb 4 _ rfl
            clear hb AX CX RA x0 x1 x2 x3 x4 c0 c1' c2 c3 c4 hX' q0
            by_cases hr : rightB ⟨hi1, yk, yg, yp, yn⟩ = true
            · rw [hr]
              have F2 := Lib.hid (LS.out.trans (by rw [if_pos hr]))
              go_wp2_with (at_builtin; refine app_rowB okE (gg := w3.heap.size) rfl _ _ rfl rfl B3.out.2 B3.out.1.size ⟨hi1, yk, yg, yp, yn⟩ rfl rfl rfl LZ.out ?_; intro v' w' h1 h2)
              obtain ⟨n3, a3, d3, rfl⟩ : ∃ n1 a1 c1, v' = .slice a1 n1 c1 := by (obtain ⟨a', c', e'⟩ := h1.slice; exact ⟨_, a', c', e'⟩)
              have FN : Hid (OwnR kE w2.heap.size w' (.slice a3 n3 d3) (lst P hi1 (j + 1)) ∧ Below w2.heap.size w2 w') := Lib.hid ⟨by rw [F2.out]; exact h1, B3.out.1.grown h2 B3.out.1.size (fun j hj => (B3.out.2.lt j hj).1)⟩
              clear h1 h2
              go_wp2_with fail
              go_roundg (n2 - (j + 1))
              case measure => have := GJ.out; omega
              case rel => exact ⟨j + 1, a3, n3, d3, by omega, rfl, by go_num, rfl, FN⟩
            · have hr' : rightB ⟨hi1, yk, yg, yp, yn⟩ = false := by simpa using hr
              have F2 := Lib.hid (LS.out.trans (by rw [if_neg hr, List.append_nil]))
              rw [hr']
              go_wp2_with fail
              go_roundg (n2 - (j + 1))
              case measure => have := GJ.out; omega
              case rel => exact ⟨j + 1, a1, n1, c1, by omega, rfl, by go_num, rfl, Lib.hid ⟨by rw [F2.out]; exact B3.out.2, B3.out.1⟩⟩
          · rcases Nat.lt_or_ge j np with hq | hq
            · have hqn : (j : Int) < (np : Int) := by omega
              have hq3 : ¬ (j : Int) < 300 := by have := N3.out; omega
              have L0 : Hid (n1 = (lst P hi1 j).length ∧ (lst P hi1 j).length ≤ 300 ∧ ∀ e ∈ lst P hi1 j, e.v = s.hi + 1 ∧ rightB e = true) := Lib.hid ⟨by obtain ⟨q1, q2, e⟩ := I.out.1.slice; simp only [Value.slice.injEq] at e; exact e.2.1, by have := lst_len P hi1 j; have := N3.out; omega, fun e he => by have := lst_all P hi1 j e he; rw [SB.out.1] at this; exact this⟩
              obtain ⟨l, hl⟩ : ∃ l, l = lst P hi1 j := ⟨_, rfl⟩
              rw [← hl] at I L0
              clear hl
              have n1b : n1 ≤ 300 := by have := L0.out.1; have := L0.out.2.1; omega
              have W0 : Hid (Pd w wr gp g v vL f s A ∧ Gl m wr ∧ OwnR kE w2.heap.size wr (.slice a1 n1 c1) l ∧ Below w2.heap.size w2 wr) := Lib.hid ⟨(CB.out wr I.out.2).2.2.2, (CB.out wr I.out.2).2.2.1, I.out.1, I.out.2⟩
              have d0 : wr.drew.cell? ⟨gp, 0, none⟩ = some (.pointer (some ⟨g, 0, none⟩)) := W0.out.1.c0
              have BH : Hid (Calls Tryd.prog 22 #[.slice a1 n1 c1] wr.drew fun e w' => ∃ a n c, e = .returned (.slice a n c) ∧ OwnR kE wr.heap.size w' (.slice a n c) (l ++ [m]) ∧ Below wr.heap.size wr w') := Lib.hid ((behind_any m l _ wr.drew (W0.out.2.1.below (below_drawn wr 1)) ((W0.out.2.2.1.row okE).below (below_drawn wr 1)) (by have := L0.out.2.1; omega)).mono fun e w' ⟨a, n, c, h1, h2, h3⟩ => ⟨a, n, c, h1, h2, (below_drawn wr 1).trans h3⟩)
              clear CB I
              go_wp2_with fail
              go_region_held3 (fun W : World => W.cell? ⟨gp, 0, none⟩ = some (.pointer (some ⟨g, 0, none⟩))) (first | assumption | go_keep) (first
                | (go_at_call 22
                   refine BH.out.mono ?_
                   rintro e x6 ⟨a3, n3, c3, rfl, ho, hb⟩
                   obtain ⟨gb, rfl, hc3⟩ : ∃ gb, a3 = some ⟨gb, 0, none⟩ ∧ n1 ≤ c3 := by
                     obtain ⟨h1, ⟨hv, hn⟩ | ⟨gb, cap', cur, hv, h2, h3, h4, h5⟩⟩ := ho
                     · simp at hn
                     · simp only [Value.slice.injEq] at hv
                       obtain ⟨e1, e2, e3⟩ := hv
                       rw [List.length_append, ← L0.out.1] at h4
                       exact ⟨gb, e1, by omega⟩
                   have hc3' : (n1 : Int) ≤ (c3 : Int) := by omega
                   have hn0' : (0 : Int) ≤ (n1 : Int) := by omega
                   have W6 : Hid (Pd w x6 gp g v vL f s A ∧ OwnR kE wr.heap.size x6 (.slice (some ⟨gb, 0, none⟩) n1 c3) l ∧ OwnR kE w2.heap.size x6 (.slice a1 n1 c1) l ∧ Below w2.heap.size w2 x6) := Lib.hid ⟨W0.out.1.below hb, by
                     have h := OwnR.take okE ho n1 (by rw [List.length_append, ← L0.out.1]; omega)
                     rw [L0.out.1, List.take_left] at h
                     rw [← L0.out.1] at h
                     exact h, W0.out.2.2.1.below hb, W0.out.2.2.2.trans (hb.mono W0.out.2.2.2.size)⟩
                   have z0 : x6.cell? ⟨gp, 0, none⟩ = some (.pointer (some ⟨g, 0, none⟩)) := W6.out.1.c0
                   have PU := Lib.hid (W6.out.1.h.push (l := l) (u := .slice (some ⟨gb, 0, none⟩) n1 c3) G.out (W6.out.2.1.row okE) (W0.out.1.h.ap (Nat.le_refl _) W6.out.2.1))
                   clear ho hb)
                | (go_at_call 28
                   refine PU.out.mono ?_
                   rintro e x7 ⟨rfl, v7, s7, h7, k7, t7, e7, f7⟩
                   have W7 : Hid (Pq w x7 gp g v7 vL f s7 A ∧ OwnR kE w2.heap.size x7 (.slice a1 n1 c1) l ∧ (pushE s l ≠ 0 → s7 = s) ∧ (pushE s l = 0 → Kp s l s7)) := Lib.hid ⟨W6.out.1.pushed h7 k7 t7, W6.out.2.2.1.kept k7 (fun k hk q => by
                     have c1 := (W6.out.2.2.1.lt k hk).1
                     have c2 := R.out.1.h.h.lt k q
                     omega), e7, f7⟩
                   have z7 : x7.cell? ⟨gp, 0, none⟩ = some (.pointer (some ⟨g, 0, none⟩)) := cell_of_row _ _ 0 _ _ _ W7.out.1.p
                   have HG := Lib.hid (high_any x7 g v7 s7 W7.out.1.h.h)
                   clear h7 k7 t7 e7 f7))
              have PI := Lib.hid (pushE_iff (s := s) L0.out.2.2 (by have := SB.out; omega))
              by_cases hz : pushE s l = 0
              · rw [hz]
                have hn1 : 0 < n1 ∧ n1 ≤ 128 := by have := PI.out.1 hz; rw [← L0.out.1] at this; exact this
                have hp1 : (n1 : Int) > 0 := by omega
                have hp2 : (n1 : Int) ≤ 128 := by omega
                have K7 := Lib.hid (W7.out.2.2.2 hz)
                have ES : s7.hi = hi1 := by rw [K7.out.hi, SB.out.1]
                rw [ES] at HG
                have hne : (hi1 == hi1 - 1) = false := by rw [beq_eq_false_iff_ne]; omega
                clear hz hn1 PI PU BH W6
                go_wp2_with fail
                refine HG.out.mono ?_
                rintro e x8 ⟨rfl, rfl⟩
                go_wp2_with fail
                refine HG.out.mono ?_
                rintro e x9 ⟨rfl, rfl⟩
                have z2 : x9.cell? ⟨gp, 2, none⟩ = some vL := cell_of_row _ _ 2 _ _ _ W7.out.1.p
                obtain ⟨nL, aL, cL, rfl⟩ : ∃ n1 a1 c1, vL = .slice a1 n1 c1 := by (obtain ⟨a', c', e'⟩ := W7.out.1.l.slice; exact ⟨_, a', c', e'⟩)
                have LA : Hid ((A.length + l.length) * kE.b ≤ 140737488355328) := Lib.hid (by
                  have h1 := R.out.1.l
                  have h2 := L0.out.2.1
                  have h3 := LE.out
                  show _ * 56 ≤ _
                  omega)
                go_wp2_with (first
                  | (at_builtin; refine app_rowsA okE (B := w.heap.size) (v := .slice aL nL cL) (u := .slice a1 n1 c1) (l := A) (m := l) rfl _ _ rfl rfl W7.out.1.l W7.out.1.h.be.size rfl (W7.out.2.1.row okE) LA.out ?_; intro v10 x10 h10 g10 t10
                     obtain ⟨nM, aM, cM, rfl⟩ : ∃ n1 a1 c1, v10 = .slice a1 n1 c1 := by (obtain ⟨a', c', e'⟩ := h10.slice; exact ⟨_, a', c', e'⟩)
                     have FN : Hid (Pd w (x10.setCell ⟨gp, 2, none⟩ (.slice aM nM cM)) gp g v7 (.slice aM nM cM) f s7 (A ++ l)) := Lib.hid (W7.out.1.app h10 g10 t10 (R.out.1.pu.push K7.out (by have := SB.out; omega) L0.out.2.2))
                     have h11 : x10.heap[gp]? = _ := (g10.block gp (lt_of_some W7.out.1.p) (fun e => W7.out.1.nl gp e.symm rfl)).trans W7.out.1.p
                     have z11 : x10.cell? ⟨gp, 2, none⟩ = some (.slice aL nL cL) := cell_of_row _ _ 2 _ _ _ h11
                     have f11 := frozen_row h11 2
                     clear h10 g10 t10 h11))
                go_roundg (n' - (i + 1))
                case measure => have := GK.out; omega
                case rel => exact ⟨i + 1, v7, _, s7, A ++ l, by omega, rfl, by go_num, by rw [ES], Lib.hid ⟨FN.out, by have := SB.out; omega, by rw [List.length_append]; have := L0.out.2.1; have := LE.out; omega⟩⟩
              · have hz' : (pushE s l == 0) = false := by rw [beq_eq_false_iff_ne]; exact hz
                have S7 := W7.out.2.2.1 hz
                subst S7
                have ES : s7.hi = hi1 - 1 := by have := SB.out.1; omega
                rw [ES] at HG
                have hne : (hi1 - 1 == hi1) = false := by rw [beq_eq_false_iff_ne]; omega
                have FN : Hid (Pd w x7 gp g v7 vL f s7 A) := Lib.hid ⟨W7.out.1.p, W7.out.1.h, W7.out.1.l, W7.out.1.lo, W7.out.1.ap, R.out.1.pu⟩
                have hcase : n1 = 0 ∨ 128 < n1 := by
                  rcases Nat.eq_zero_or_pos n1 with q | q
                  · exact .inl q
                  · right
                    rcases Nat.lt_or_ge 128 n1 with c | c
                    · exact c
                    · exact absurd (PI.out.2 (by rw [← L0.out.1]; omega)) hz
                clear hz PI PU BH W6
                rcases hcase with hq | hq
                · have hp1 : ¬ (n1 : Int) > 0 := by omega
                  go_wp2_with fail
                  refine HG.out.mono ?_
                  rintro e x8 ⟨rfl, rfl⟩
                  go_wp2_with fail
                  refine HG.out.mono ?_
                  rintro e x9 ⟨rfl, rfl⟩
                  go_wp2_with fail
                  go_roundg (n' - (i + 1))
                  case measure => have := GK.out; omega
                  case rel => exact ⟨i + 1, v7, vL, s7, A, by omega, rfl, by go_num, by rw [SB.out.1], Lib.hid ⟨FN.out, by have := SB.out; omega, by have := LE.out; omega⟩⟩
                · have hp1 : (n1 : Int) > 0 := by omega
                  have hp2 : ¬ (n1 : Int) ≤ 128 := by omega
                  go_wp2_with fail
                  refine HG.out.mono ?_
                  rintro e x8 ⟨rfl, rfl⟩
                  go_wp2_with fail
                  refine HG.out.mono ?_
                  rintro e x9 ⟨rfl, rfl⟩
                  go_wp2_with fail
                  go_roundg (n' - (i + 1))
                  case measure => have := GK.out; omega
                  case rel => exact ⟨i + 1, v7, vL, s7, A, by omega, rfl, by go_num, by rw [SB.out.1], Lib.hid ⟨FN.out, by have := SB.out; omega, by have := LE.out; omega⟩⟩
            · have hqn : ¬ (j : Int) < (np : Int) := by omega
              have L0 : Hid (n1 = (lst P hi1 j).length ∧ (lst P hi1 j).length ≤ 300 ∧ ∀ e ∈ lst P hi1 j, e.v = s.hi + 1 ∧ rightB e = true) := Lib.hid ⟨by obtain ⟨q1, q2, e⟩ := I.out.1.slice; simp only [Value.slice.injEq] at e; exact e.2.1, by have := lst_len P hi1 j; have := N3.out; omega, fun e he => by have := lst_all P hi1 j e he; rw [SB.out.1] at this; exact this⟩
              obtain ⟨l, hl⟩ : ∃ l, l = lst P hi1 j := ⟨_, rfl⟩
              rw [← hl] at I L0
              clear hl
              have n1b : n1 ≤ 300 := by have := L0.out.1; have := L0.out.2.1; omega
              have W0 : Hid (Pd w wr gp g v vL f s A ∧ Gl m wr ∧ OwnR kE w2.heap.size wr (.slice a1 n1 c1) l ∧ Below w2.heap.size w2 wr) := Lib.hid ⟨(CB.out wr I.out.2).2.2.2, (CB.out wr I.out.2).2.2.1, I.out.1, I.out.2⟩
              have d0 : wr.drew.cell? ⟨gp, 0, none⟩ = some (.pointer (some ⟨g, 0, none⟩)) := W0.out.1.c0
              have BH : Hid (Calls Tryd.prog 22 #[.slice a1 n1 c1] wr.drew fun e w' => ∃ a n c, e = .returned (.slice a n c) ∧ OwnR kE wr.heap.size w' (.slice a n c) (l ++ [m]) ∧ Below wr.heap.size wr w') := Lib.hid ((behind_any m l _ wr.drew (W0.out.2.1.below (below_drawn wr 1)) ((W0.out.2.2.1.row okE).below (below_drawn wr 1)) (by have := L0.out.2.1; omega)).mono fun e w' ⟨a, n, c, h1, h2, h3⟩ => ⟨a, n, c, h1, h2, (below_drawn wr 1).trans h3⟩)
              clear CB I
              go_wp2_with fail
              go_region_held3 (fun W : World => W.cell? ⟨gp, 0, none⟩ = some (.pointer (some ⟨g, 0, none⟩))) (first | assumption | go_keep) (first
                | (go_at_call 22
                   refine BH.out.mono ?_
                   rintro e x6 ⟨a3, n3, c3, rfl, ho, hb⟩
                   obtain ⟨gb, rfl, hc3⟩ : ∃ gb, a3 = some ⟨gb, 0, none⟩ ∧ n1 ≤ c3 := by
                     obtain ⟨h1, ⟨hv, hn⟩ | ⟨gb, cap', cur, hv, h2, h3, h4, h5⟩⟩ := ho
                     · simp at hn
                     · simp only [Value.slice.injEq] at hv
                       obtain ⟨e1, e2, e3⟩ := hv
                       rw [List.length_append, ← L0.out.1] at h4
                       exact ⟨gb, e1, by omega⟩
                   have hc3' : (n1 : Int) ≤ (c3 : Int) := by omega
                   have hn0' : (0 : Int) ≤ (n1 : Int) := by omega
                   have W6 : Hid (Pd w x6 gp g v vL f s A ∧ OwnR kE wr.heap.size x6 (.slice (some ⟨gb, 0, none⟩) n1 c3) l ∧ OwnR kE w2.heap.size x6 (.slice a1 n1 c1) l ∧ Below w2.heap.size w2 x6) := Lib.hid ⟨W0.out.1.below hb, by
                     have h := OwnR.take okE ho n1 (by rw [List.length_append, ← L0.out.1]; omega)
                     rw [L0.out.1, List.take_left] at h
                     rw [← L0.out.1] at h
                     exact h, W0.out.2.2.1.below hb, W0.out.2.2.2.trans (hb.mono W0.out.2.2.2.size)⟩
                   have z0 : x6.cell? ⟨gp, 0, none⟩ = some (.pointer (some ⟨g, 0, none⟩)) := W6.out.1.c0
                   have PU := Lib.hid (W6.out.1.h.push (l := l) (u := .slice (some ⟨gb, 0, none⟩) n1 c3) G.out (W6.out.2.1.row okE) (W0.out.1.h.ap (Nat.le_refl _) W6.out.2.1))
                   clear ho hb)
                | (go_at_call 28
                   refine PU.out.mono ?_
                   rintro e x7 ⟨rfl, v7, s7, h7, k7, t7, e7, f7⟩
                   have W7 : Hid (Pq w x7 gp g v7 vL f s7 A ∧ OwnR kE w2.heap.size x7 (.slice a1 n1 c1) l ∧ (pushE s l ≠ 0 → s7 = s) ∧ (pushE s l = 0 → Kp s l s7)) := Lib.hid ⟨W6.out.1.pushed h7 k7 t7, W6.out.2.2.1.kept k7 (fun k hk q => by
                     have c1 := (W6.out.2.2.1.lt k hk).1
                     have c2 := R.out.1.h.h.lt k q
                     omega), e7, f7⟩
                   have z7 : x7.cell? ⟨gp, 0, none⟩ = some (.pointer (some ⟨g, 0, none⟩)) := cell_of_row _ _ 0 _ _ _ W7.out.1.p
                   have HG := Lib.hid (high_any x7 g v7 s7 W7.out.1.h.h)
                   clear h7 k7 t7 e7 f7))
              have PI := Lib.hid (pushE_iff (s := s) L0.out.2.2 (by have := SB.out; omega))
              by_cases hz : pushE s l = 0
              · rw [hz]
                have hn1 : 0 < n1 ∧ n1 ≤ 128 := by have := PI.out.1 hz; rw [← L0.out.1] at this; exact this
                have hp1 : (n1 : Int) > 0 := by omega
                have hp2 : (n1 : Int) ≤ 128 := by omega
                have K7 := Lib.hid (W7.out.2.2.2 hz)
                have ES : s7.hi = hi1 := by rw [K7.out.hi, SB.out.1]
                rw [ES] at HG
                have hne : (hi1 == hi1 - 1) = false := by rw [beq_eq_false_iff_ne]; omega
                clear hz hn1 PI PU BH W6
                go_wp2_with fail
                refine HG.out.mono ?_
                rintro e x8 ⟨rfl, rfl⟩
                go_wp2_with fail
                refine HG.out.mono ?_
                rintro e x9 ⟨rfl, rfl⟩
                have z2 : x9.cell? ⟨gp, 2, none⟩ = some vL := cell_of_row _ _ 2 _ _ _ W7.out.1.p
                obtain ⟨nL, aL, cL, rfl⟩ : ∃ n1 a1 c1, vL = .slice a1 n1 c1 := by (obtain ⟨a', c', e'⟩ := W7.out.1.l.slice; exact ⟨_, a', c', e'⟩)
                have LA : Hid ((A.length + l.length) * kE.b ≤ 140737488355328) := Lib.hid (by
                  have h1 := R.out.1.l
                  have h2 := L0.out.2.1
                  have h3 := LE.out
                  show _ * 56 ≤ _
                  omega)
                go_wp2_with (first
                  | (at_builtin; refine app_rowsA okE (B := w.heap.size) (v := .slice aL nL cL) (u := .slice a1 n1 c1) (l := A) (m := l) rfl _ _ rfl rfl W7.out.1.l W7.out.1.h.be.size rfl (W7.out.2.1.row okE) LA.out ?_; intro v10 x10 h10 g10 t10
                     obtain ⟨nM, aM, cM, rfl⟩ : ∃ n1 a1 c1, v10 = .slice a1 n1 c1 := by (obtain ⟨a', c', e'⟩ := h10.slice; exact ⟨_, a', c', e'⟩)
                     have FN : Hid (Pd w (x10.setCell ⟨gp, 2, none⟩ (.slice aM nM cM)) gp g v7 (.slice aM nM cM) f s7 (A ++ l)) := Lib.hid (W7.out.1.app h10 g10 t10 (R.out.1.pu.push K7.out (by have := SB.out; omega) L0.out.2.2))
                     have h11 : x10.heap[gp]? = _ := (g10.block gp (lt_of_some W7.out.1.p) (fun e => W7.out.1.nl gp e.symm rfl)).trans W7.out.1.p
                     have z11 : x10.cell? ⟨gp, 2, none⟩ = some (.slice aL nL cL) := cell_of_row _ _ 2 _ _ _ h11
                     have f11 := frozen_row h11 2
                     clear h10 g10 t10 h11))
                go_roundg (n' - (i + 1))
                case measure => have := GK.out; omega
                case rel => exact ⟨i + 1, v7, _, s7, A ++ l, by omega, rfl, by go_num, by rw [ES], Lib.hid ⟨FN.out, by have := SB.out; omega, by rw [List.length_append]; have := L0.out.2.1; have := LE.out; omega⟩⟩
              · have hz' : (pushE s l == 0) = false := by rw [beq_eq_false_iff_ne]; exact hz
                have S7 := W7.out.2.2.1 hz
                subst S7
                have ES : s7.hi = hi1 - 1 := by have := SB.out.1; omega
                rw [ES] at HG
                have hne : (hi1 - 1 == hi1) = false := by rw [beq_eq_false_iff_ne]; omega
                have FN : Hid (Pd w x7 gp g v7 vL f s7 A) := Lib.hid ⟨W7.out.1.p, W7.out.1.h, W7.out.1.l, W7.out.1.lo, W7.out.1.ap, R.out.1.pu⟩
                have hcase : n1 = 0 ∨ 128 < n1 := by
                  rcases Nat.eq_zero_or_pos n1 with q | q
                  · exact .inl q
                  · right
                    rcases Nat.lt_or_ge 128 n1 with c | c
                    · exact c
                    · exact absurd (PI.out.2 (by rw [← L0.out.1]; omega)) hz
                clear hz PI PU BH W6
                rcases hcase with hq | hq
                · have hp1 : ¬ (n1 : Int) > 0 := by omega
                  go_wp2_with fail
                  refine HG.out.mono ?_
                  rintro e x8 ⟨rfl, rfl⟩
                  go_wp2_with fail
                  refine HG.out.mono ?_
                  rintro e x9 ⟨rfl, rfl⟩
                  go_wp2_with fail
                  go_roundg (n' - (i + 1))
                  case measure => have := GK.out; omega
                  case rel => exact ⟨i + 1, v7, vL, s7, A, by omega, rfl, by go_num, by rw [SB.out.1], Lib.hid ⟨FN.out, by have := SB.out; omega, by have := LE.out; omega⟩⟩
                · have hp1 : (n1 : Int) > 0 := by omega
                  have hp2 : ¬ (n1 : Int) ≤ 128 := by omega
                  go_wp2_with fail
                  refine HG.out.mono ?_
                  rintro e x8 ⟨rfl, rfl⟩
                  go_wp2_with fail
                  refine HG.out.mono ?_
                  rintro e x9 ⟨rfl, rfl⟩
                  go_wp2_with fail
                  go_roundg (n' - (i + 1))
                  case measure => have := GK.out; omega
                  case rel => exact ⟨i + 1, v7, vL, s7, A, by omega, rfl, by go_num, by rw [SB.out.1], Lib.hid ⟨FN.out, by have := SB.out; omega, by have := LE.out; omega⟩⟩
      · have E400 := N4.out
        rcases Nat.lt_or_ge i n with hq | hq
        · have hqn : (i : Int) < (n : Int) := by omega
          have hq3 : ¬ (i : Int) < 400 := by omega
          go_wp2_with fail
          go_ret2
          have hfin : s.hi ≤ 576460752303423888 ∧ A.length ≤ 120000 := by have := SB.out; have := LE.out; omega
          first | exact .inr ⟨gp, g, v, vL, s, A, rfl, R.out.1, hfin⟩ | exact .inr ⟨gp, rfl, g, v, vL, s, A, R.out.1, hfin⟩ | exact .inr ⟨gp, rfl, g, v, vL, s, ⟨A, R.out.1⟩, hfin⟩
        · have hqn : ¬ (i : Int) < (n : Int) := by omega
          go_wp2_with fail
          go_ret2
          have hfin : s.hi ≤ 576460752303423888 ∧ A.length ≤ 120000 := by have := SB.out; have := LE.out; omega
          first | exact .inr ⟨gp, g, v, vL, s, A, rfl, R.out.1, hfin⟩ | exact .inr ⟨gp, rfl, g, v, vL, s, A, R.out.1, hfin⟩ | exact .inr ⟨gp, rfl, g, v, vL, s, ⟨A, R.out.1⟩, hfin⟩
  · have EF : Hid (f = version) := Lib.hid (by have := FV.out; omega)
    go_wp2_with fail
    go_loopg [7, 8] n' (fun gk sn si wr => ∃ (i : Nat) (v vL : Value) (s : St) (A : List Ev), i ≤ n' ∧ gk = n' - i ∧ si = .int .i64 i ∧ sn = .int .i64 (s.hi + 1) ∧ Hid (Pd w wr gp g v vL f s A ∧ s.hi ≤ f + i ∧ A.length ≤ 300 * i))
    case atStart => exact ⟨0, _, _, ⟨f, f, []⟩, [], Nat.zero_le _, rfl, rfl, by simp only [Value.int.injEq, true_and]; have := FV.out; omega, Lib.hid ⟨by have h := PD.out; rw [EF.out] at h ⊢; exact h, by simp, by simp⟩⟩
    case round =>
      clear PD H1 B1
      obtain ⟨i, v, vL, s, A, hi, hgk, rfl, rfl, R⟩ := hrel
      have GK := Lib.hid hgk
      clear hgk
      obtain ⟨w2, rfl⟩ : ∃ w2, w2 = wr := ⟨_, rfl⟩
      obtain ⟨hi1, hhi⟩ : ∃ x, x = s.hi + 1 := ⟨_, rfl⟩
      have SB : Hid (hi1 = s.hi + 1 ∧ 0 ≤ s.hi ∧ s.hi ≤ f + i) := Lib.hid ⟨hhi, by have := R.out.1.h.ok.b; omega, R.out.2.1⟩
      have LE : Hid (A.length ≤ 300 * i ∧ i ≤ 400) := Lib.hid ⟨R.out.2.2, by have := N4.out; omega⟩
      have hb0 : 1 ≤ hi1 := by have := SB.out; omega
      have hb9 : hi1 ≤ 576460752303423889 := by have := SB.out; have := N4.out; omega
      rw [← hhi]
      clear hhi
      by_cases hlt : i < n'
      · have hin : i < n := by have := N4.out; omega
        have hi4 : i < 400 := by have := N4.out; omega
        have hin' : (i : Int) < (n : Int) := by omega
        have hi4' : (i : Int) < 400 := by omega
        obtain ⟨b, off, ra, rc, rfl, q0, rowP⟩ := NN.out.at i (by rw [← HN.out]; exact hin)
        obtain ⟨P, hP⟩ : ∃ P, P = ps.getD i [] := ⟨_, rfl⟩
        rw [← hP] at q0 rowP
        obtain ⟨xa, xc, eP, hlP, hcP⟩ := rowP.len
        simp only [Value.slice.injEq] at eP
        obtain ⟨ea, -, ec⟩ := eP
        subst ea ec
        unfold maxLen at hcP
        obtain ⟨np, hnp⟩ : ∃ np, np = P.length := ⟨_, rfl⟩
        rw [← hnp] at q0 rowP hlP
        have RP : Hid (np = P.length ∧ Row kE w (.slice ra np rc) P ∧ w.cell? ⟨b, off + i, none⟩ = some (.slice ra np rc)) := Lib.hid ⟨hnp, rowP, q0⟩
        clear hnp rowP hP
        have CB : Hid (∀ W : World, Below w2.heap.size w2 W → W.cell? ⟨b, off + i, none⟩ = some (.slice ra np rc) ∧ Row kE W (.slice ra np rc) P ∧ Gl m W ∧ Pd w W gp g v vL f s A) := Lib.hid fun W hb => by
          have hb2 := R.out.1.h.be.trans (hb.mono R.out.1.h.be.size)
          exact ⟨(hb2.cell (block_lt_of_cell RP.out.2.2)).trans RP.out.2.2, RP.out.2.1.below hb2, G.out.below hb2, R.out.1.below hb⟩
        clear q0
        obtain ⟨n2, hn2⟩ : ∃ n2, n2 = min np 300 := ⟨_, rfl⟩
        have N3 := Lib.hid hn2
        clear hn2
        go_wp2_with fail
        go_loopg [9, 10] n2 (fun gj sl sj wr2 => ∃ (j : Nat) (a1 : Option Addr) (n1 c1 : Nat), j ≤ n2 ∧ gj = n2 - j ∧ sj = .int .i64 j ∧ sl = .slice a1 n1 c1 ∧ Hid (OwnR kE w2.heap.size wr2 (.slice a1 n1 c1) (lst P hi1 j) ∧ Below w2.heap.size w2 wr2))
        case atStart => exact ⟨0, none, 0, 0, Nat.zero_le _, rfl, rfl, rfl, Lib.hid ⟨OwnR.nil _ _ _, Below.refl _ _⟩⟩
        case round =>
          obtain ⟨j, a1, n1, c1, hj, hgj, rfl, rfl, I⟩ := hrel
          have GJ := Lib.hid hgj
          clear hgj
          have q0 := (CB.out wr I.out.2).1
          by_cases hjt : j < n2
          · have hjn : j < np := by have := N3.out; omega
            have hj3 : j < 300 := by have := N3.out; omega
            have hjn' : (j : Int) < (np : Int) := by omega
            have hj3' : (j : Int) < 300 := by omega
            have hjP : j < P.length := by rw [← RP.out.1]; exact hjn
            obtain ⟨pb, po, rfl, c0, c1', c2, c3, c4⟩ := row_at (CB.out wr I.out.2).2.1 j hjP
            have LS := Lib.hid (lst_succ P hi1 j hjP)
            have LZ : Hid (((lst P hi1 j).length + 1) * kE.b ≤ 140737488355328) := Lib.hid (by
              have := lst_len P hi1 j
              show (_ + 1) * 56 ≤ _
              omega)
            obtain ⟨y, hy⟩ : ∃ y, y = P.getD j Ev.z := ⟨_, rfl⟩
            rw [← hy] at c0 c1' c2 c3 c4 LS
            clear hy hjP
            obtain ⟨yv, yk, yg, yp, yn⟩ := y
            unfold dt at LS
            simp only at c0 c1' c2 c3 c4 LS
            obtain ⟨X, hX⟩ : ∃ X, X = wr.alloc (.cells #[.int .i64 hi1, .int .i64 yk, .bool yg, .string yp, .string yn] 33) := ⟨_, rfl⟩
            have AX : Hid (Below w2.heap.size w2 X ∧ L.HasM X ∧ OwnR kE w2.heap.size X (.slice a1 n1 c1) (lst P hi1 j)) := Lib.hid (by
              have hb : Below wr.heap.size wr X := by rw [hX]; exact (Below.refl _ wr).alloc (Nat.le_refl _) _
              have hb2 := I.out.2.trans (hb.mono I.out.2.size)
              exact ⟨hb2, (CB.out X hb2).2.2.1.hm, I.out.1.below hb⟩)
            have CX : Hid (∀ W : World, Below X.heap.size X W → ∀ i y, #[Value.int .i64 hi1, .int .i64 yk, .bool yg, .string yp, .string yn][i]? = some y → W.cell? ⟨wr.heap.size, i, none⟩ = some y) := Lib.hid fun W hb i y h => by
              have h1 : X.cell? ⟨wr.heap.size, i, none⟩ = some y := by rw [hX, World.cell?_alloc_new]; exact h
              rw [hb.cell (block_lt_of_cell h1)]; exact h1
            have RA : Hid (Calls Tryd.prog 29 #[.agg #[.int .i64 hi1, .int .i64 yk, .bool yg, .string yp, .string yn]] X fun e w' => e = .returned (.bool (rightB ⟨hi1, yk, yg, yp, yn⟩)) ∧ Below X.heap.size X w') := Lib.hid (lright_any ⟨hi1, yk, yg, yp, yn⟩ X AX.out.2.1)
            have x0 := CX.out X (Below.refl _ _) 0 _ rfl
            have x1 := CX.out X (Below.refl _ _) 1 _ rfl
            have x2 := CX.out X (Below.refl _ _) 2 _ rfl
            have x3 := CX.out X (Below.refl _ _) 3 _ rfl
            have x4 := CX.out X (Below.refl _ _) 4 _ rfl
            have hX' := hX.symm
            clear hX I
            go_wp2_with fail
            refine RA.out.mono ?_
            rintro e w3 ⟨rfl, hb⟩
            have B3 : Hid (Below w2.heap.size w2 w3 ∧ OwnR kE w2.heap.size w3 (.slice a1 n1 c1) (lst P hi1 j)) := Lib.hid ⟨AX.out.1.trans (hb.mono AX.out.1.size), AX.out.2.2.below hb⟩
            have y0 := CX.out w3 hb 0 _ rfl
            have y1 := CX.out w3 hb 1 _ rfl
            have y2 := CX.out w3 hb 2 _ rfl
            have y3 := CX.out w3 hb 3 _ rfl
            have y4 := CX.out w3 hb 4 _ rfl
            clear hb AX CX RA x0 x1 x2 x3 x4 c0 c1' c2 c3 c4 hX' q0
            by_cases hr : rightB ⟨hi1, yk, yg, yp, yn⟩ = true
            · rw [hr]
              have F2 := Lib.hid (LS.out.trans (by rw [if_pos hr]))
              go_wp2_with (at_builtin; refine app_rowB okE (gg := w3.heap.size) rfl _ _ rfl rfl B3.out.2 B3.out.1.size ⟨hi1, yk, yg, yp, yn⟩ rfl rfl rfl LZ.out ?_; intro v' w' h1 h2)
              obtain ⟨n3, a3, d3, rfl⟩ : ∃ n1 a1 c1, v' = .slice a1 n1 c1 := by (obtain ⟨a', c', e'⟩ := h1.slice; exact ⟨_, a', c', e'⟩)
              have FN : Hid (OwnR kE w2.heap.size w' (.slice a3 n3 d3) (lst P hi1 (j + 1)) ∧ Below w2.heap.size w2 w') := Lib.hid ⟨by rw [F2.out]; exact h1, B3.out.1.grown h2 B3.out.1.size (fun j hj => (B3.out.2.lt j hj).1)⟩
              clear h1 h2
              go_wp2_with fail
              go_roundg (n2 - (j + 1))
              case measure => have := GJ.out; omega
              case rel => exact ⟨j + 1, a3, n3, d3, by omega, rfl, by go_num, rfl, FN⟩
            · have hr' : rightB ⟨hi1, yk, yg, yp, yn⟩ = false := by simpa using hr
              have F2 := Lib.hid (LS.out.trans (by rw [if_neg hr, List.append_nil]))
              rw [hr']
              go_wp2_with fail
              go_roundg (n2 - (j + 1))
              case measure => have := GJ.out; omega
              case rel => exact ⟨j + 1, a1, n1, c1, by omega, rfl, by go_num, rfl, Lib.hid ⟨by rw [F2.out]; exact B3.out.2, B3.out.1⟩⟩
          · rcases Nat.lt_or_ge j np with hq | hq
            · have hqn : (j : Int) < (np : Int) := by omega
              have hq3 : ¬ (j : Int) < 300 := by have := N3.out; omega
              have L0 : Hid (n1 = (lst P hi1 j).length ∧ (lst P hi1 j).length ≤ 300 ∧ ∀ e ∈ lst P hi1 j, e.v = s.hi + 1 ∧ rightB e = true) := Lib.hid ⟨by obtain ⟨q1, q2, e⟩ := I.out.1.slice; simp only [Value.slice.injEq] at e; exact e.2.1, by have := lst_len P hi1 j; have := N3.out; omega, fun e he => by have := lst_all P hi1 j e he; rw [SB.out.1] at this; exact this⟩
              obtain ⟨l, hl⟩ : ∃ l, l = lst P hi1 j := ⟨_, rfl⟩
              rw [← hl] at I L0
              clear hl
              have n1b : n1 ≤ 300 := by have := L0.out.1; have := L0.out.2.1; omega
              have W0 : Hid (Pd w wr gp g v vL f s A ∧ Gl m wr ∧ OwnR kE w2.heap.size wr (.slice a1 n1 c1) l ∧ Below w2.heap.size w2 wr) := Lib.hid ⟨(CB.out wr I.out.2).2.2.2, (CB.out wr I.out.2).2.2.1, I.out.1, I.out.2⟩
              have d0 : wr.drew.cell? ⟨gp, 0, none⟩ = some (.pointer (some ⟨g, 0, none⟩)) := W0.out.1.c0
              have BH : Hid (Calls Tryd.prog 22 #[.slice a1 n1 c1] wr.drew fun e w' => ∃ a n c, e = .returned (.slice a n c) ∧ OwnR kE wr.heap.size w' (.slice a n c) (l ++ [m]) ∧ Below wr.heap.size wr w') := Lib.hid ((behind_any m l _ wr.drew (W0.out.2.1.below (below_drawn wr 1)) ((W0.out.2.2.1.row okE).below (below_drawn wr 1)) (by have := L0.out.2.1; omega)).mono fun e w' ⟨a, n, c, h1, h2, h3⟩ => ⟨a, n, c, h1, h2, (below_drawn wr 1).trans h3⟩)
              clear CB I
              go_wp2_with fail
              go_region_held3 (fun W : World => W.cell? ⟨gp, 0, none⟩ = some (.pointer (some ⟨g, 0, none⟩))) (first | assumption | go_keep) (first
                | (go_at_call 22
                   refine BH.out.mono ?_
                   rintro e x6 ⟨a3, n3, c3, rfl, ho, hb⟩
                   obtain ⟨gb, rfl, hc3⟩ : ∃ gb, a3 = some ⟨gb, 0, none⟩ ∧ n1 ≤ c3 := by
                     obtain ⟨h1, ⟨hv, hn⟩ | ⟨gb, cap', cur, hv, h2, h3, h4, h5⟩⟩ := ho
                     · simp at hn
                     · simp only [Value.slice.injEq] at hv
                       obtain ⟨e1, e2, e3⟩ := hv
                       rw [List.length_append, ← L0.out.1] at h4
                       exact ⟨gb, e1, by omega⟩
                   have hc3' : (n1 : Int) ≤ (c3 : Int) := by omega
                   have hn0' : (0 : Int) ≤ (n1 : Int) := by omega
                   have W6 : Hid (Pd w x6 gp g v vL f s A ∧ OwnR kE wr.heap.size x6 (.slice (some ⟨gb, 0, none⟩) n1 c3) l ∧ OwnR kE w2.heap.size x6 (.slice a1 n1 c1) l ∧ Below w2.heap.size w2 x6) := Lib.hid ⟨W0.out.1.below hb, by
                     have h := OwnR.take okE ho n1 (by rw [List.length_append, ← L0.out.1]; omega)
                     rw [L0.out.1, List.take_left] at h
                     rw [← L0.out.1] at h
                     exact h, W0.out.2.2.1.below hb, W0.out.2.2.2.trans (hb.mono W0.out.2.2.2.size)⟩
                   have z0 : x6.cell? ⟨gp, 0, none⟩ = some (.pointer (some ⟨g, 0, none⟩)) := W6.out.1.c0
                   have PU := Lib.hid (W6.out.1.h.push (l := l) (u := .slice (some ⟨gb, 0, none⟩) n1 c3) G.out (W6.out.2.1.row okE) (W0.out.1.h.ap (Nat.le_refl _) W6.out.2.1))
                   clear ho hb)
                | (go_at_call 28
                   refine PU.out.mono ?_
                   rintro e x7 ⟨rfl, v7, s7, h7, k7, t7, e7, f7⟩
                   have W7 : Hid (Pq w x7 gp g v7 vL f s7 A ∧ OwnR kE w2.heap.size x7 (.slice a1 n1 c1) l ∧ (pushE s l ≠ 0 → s7 = s) ∧ (pushE s l = 0 → Kp s l s7)) := Lib.hid ⟨W6.out.1.pushed h7 k7 t7, W6.out.2.2.1.kept k7 (fun k hk q => by
                     have c1 := (W6.out.2.2.1.lt k hk).1
                     have c2 := R.out.1.h.h.lt k q
                     omega), e7, f7⟩
                   have z7 : x7.cell? ⟨gp, 0, none⟩ = some (.pointer (some ⟨g, 0, none⟩)) := cell_of_row _ _ 0 _ _ _ W7.out.1.p
                   have HG := Lib.hid (high_any x7 g v7 s7 W7.out.1.h.h)
                   clear h7 k7 t7 e7 f7))
              have PI := Lib.hid (pushE_iff (s := s) L0.out.2.2 (by have := SB.out; omega))
              by_cases hz : pushE s l = 0
              · rw [hz]
                have hn1 : 0 < n1 ∧ n1 ≤ 128 := by have := PI.out.1 hz; rw [← L0.out.1] at this; exact this
                have hp1 : (n1 : Int) > 0 := by omega
                have hp2 : (n1 : Int) ≤ 128 := by omega
                have K7 := Lib.hid (W7.out.2.2.2 hz)
                have ES : s7.hi = hi1 := by rw [K7.out.hi, SB.out.1]
                rw [ES] at HG
                have hne : (hi1 == hi1 - 1) = false := by rw [beq_eq_false_iff_ne]; omega
                clear hz hn1 PI PU BH W6
                go_wp2_with fail
                refine HG.out.mono ?_
                rintro e x8 ⟨rfl, rfl⟩
                go_wp2_with fail
                refine HG.out.mono ?_
                rintro e x9 ⟨rfl, rfl⟩
                have z2 : x9.cell? ⟨gp, 2, none⟩ = some vL := cell_of_row _ _ 2 _ _ _ W7.out.1.p
                obtain ⟨nL, aL, cL, rfl⟩ : ∃ n1 a1 c1, vL = .slice a1 n1 c1 := by (obtain ⟨a', c', e'⟩ := W7.out.1.l.slice; exact ⟨_, a', c', e'⟩)
                have LA : Hid ((A.length + l.length) * kE.b ≤ 140737488355328) := Lib.hid (by
                  have h1 := R.out.1.l
                  have h2 := L0.out.2.1
                  have h3 := LE.out
                  show _ * 56 ≤ _
                  omega)
                go_wp2_with (first
                  | (at_builtin; refine app_rowsA okE (B := w.heap.size) (v := .slice aL nL cL) (u := .slice a1 n1 c1) (l := A) (m := l) rfl _ _ rfl rfl W7.out.1.l W7.out.1.h.be.size rfl (W7.out.2.1.row okE) LA.out ?_; intro v10 x10 h10 g10 t10
                     obtain ⟨nM, aM, cM, rfl⟩ : ∃ n1 a1 c1, v10 = .slice a1 n1 c1 := by (obtain ⟨a', c', e'⟩ := h10.slice; exact ⟨_, a', c', e'⟩)
                     have FN : Hid (Pd w (x10.setCell ⟨gp, 2, none⟩ (.slice aM nM cM)) gp g v7 (.slice aM nM cM) f s7 (A ++ l)) := Lib.hid (W7.out.1.app h10 g10 t10 (R.out.1.pu.push K7.out (by have := SB.out; omega) L0.out.2.2))
                     have h11 : x10.heap[gp]? = _ := (g10.block gp (lt_of_some W7.out.1.p) (fun e => W7.out.1.nl gp e.symm rfl)).trans W7.out.1.p
                     have z11 : x10.cell? ⟨gp, 2, none⟩ = some (.slice aL nL cL) := cell_of_row _ _ 2 _ _ _ h11
                     have f11 := frozen_row h11 2
                     clear h10 g10 t10 h11))
                go_roundg (n' - (i + 1))
                case measure => have := GK.out; omega
                case rel => exact ⟨i + 1, v7, _, s7, A ++ l, by omega, rfl, by go_num, by rw [ES], Lib.hid ⟨FN.out, by have := SB.out; omega, by rw [List.length_append]; have := L0.out.2.1; have := LE.out; omega⟩⟩
              · have hz' : (pushE s l == 0) = false := by rw [beq_eq_false_iff_ne]; exact hz
                have S7 := W7.out.2.2.1 hz
                subst S7
                have ES : s7.hi = hi1 - 1 := by have := SB.out.1; omega
                rw [ES] at HG
                have hne : (hi1 - 1 == hi1) = false := by rw [beq_eq_false_iff_ne]; omega
                have FN : Hid (Pd w x7 gp g v7 vL f s7 A) := Lib.hid ⟨W7.out.1.p, W7.out.1.h, W7.out.1.l, W7.out.1.lo, W7.out.1.ap, R.out.1.pu⟩
                have hcase : n1 = 0 ∨ 128 < n1 := by
                  rcases Nat.eq_zero_or_pos n1 with q | q
                  · exact .inl q
                  · right
                    rcases Nat.lt_or_ge 128 n1 with c | c
                    · exact c
                    · exact absurd (PI.out.2 (by rw [← L0.out.1]; omega)) hz
                clear hz PI PU BH W6
                rcases hcase with hq | hq
                · have hp1 : ¬ (n1 : Int) > 0 := by omega
                  go_wp2_with fail
                  refine HG.out.mono ?_
                  rintro e x8 ⟨rfl, rfl⟩
                  go_wp2_with fail
                  refine HG.out.mono ?_
                  rintro e x9 ⟨rfl, rfl⟩
                  go_wp2_with fail
                  go_roundg (n' - (i + 1))
                  case measure => have := GK.out; omega
                  case rel => exact ⟨i + 1, v7, vL, s7, A, by omega, rfl, by go_num, by rw [SB.out.1], Lib.hid ⟨FN.out, by have := SB.out; omega, by have := LE.out; omega⟩⟩
                · have hp1 : (n1 : Int) > 0 := by omega
                  have hp2 : ¬ (n1 : Int) ≤ 128 := by omega
                  go_wp2_with fail
                  refine HG.out.mono ?_
                  rintro e x8 ⟨rfl, rfl⟩
                  go_wp2_with fail
                  refine HG.out.mono ?_
                  rintro e x9 ⟨rfl, rfl⟩
                  go_wp2_with fail
                  go_roundg (n' - (i + 1))
                  case measure => have := GK.out; omega
                  case rel => exact ⟨i + 1, v7, vL, s7, A, by omega, rfl, by go_num, by rw [SB.out.1], Lib.hid ⟨FN.out, by have := SB.out; omega, by have := LE.out; omega⟩⟩
            · have hqn : ¬ (j : Int) < (np : Int) := by omega
              have L0 : Hid (n1 = (lst P hi1 j).length ∧ (lst P hi1 j).length ≤ 300 ∧ ∀ e ∈ lst P hi1 j, e.v = s.hi + 1 ∧ rightB e = true) := Lib.hid ⟨by obtain ⟨q1, q2, e⟩ := I.out.1.slice; simp only [Value.slice.injEq] at e; exact e.2.1, by have := lst_len P hi1 j; have := N3.out; omega, fun e he => by have := lst_all P hi1 j e he; rw [SB.out.1] at this; exact this⟩
              obtain ⟨l, hl⟩ : ∃ l, l = lst P hi1 j := ⟨_, rfl⟩
              rw [← hl] at I L0
              clear hl
              have n1b : n1 ≤ 300 := by have := L0.out.1; have := L0.out.2.1; omega
              have W0 : Hid (Pd w wr gp g v vL f s A ∧ Gl m wr ∧ OwnR kE w2.heap.size wr (.slice a1 n1 c1) l ∧ Below w2.heap.size w2 wr) := Lib.hid ⟨(CB.out wr I.out.2).2.2.2, (CB.out wr I.out.2).2.2.1, I.out.1, I.out.2⟩
              have d0 : wr.drew.cell? ⟨gp, 0, none⟩ = some (.pointer (some ⟨g, 0, none⟩)) := W0.out.1.c0
              have BH : Hid (Calls Tryd.prog 22 #[.slice a1 n1 c1] wr.drew fun e w' => ∃ a n c, e = .returned (.slice a n c) ∧ OwnR kE wr.heap.size w' (.slice a n c) (l ++ [m]) ∧ Below wr.heap.size wr w') := Lib.hid ((behind_any m l _ wr.drew (W0.out.2.1.below (below_drawn wr 1)) ((W0.out.2.2.1.row okE).below (below_drawn wr 1)) (by have := L0.out.2.1; omega)).mono fun e w' ⟨a, n, c, h1, h2, h3⟩ => ⟨a, n, c, h1, h2, (below_drawn wr 1).trans h3⟩)
              clear CB I
              go_wp2_with fail
              go_region_held3 (fun W : World => W.cell? ⟨gp, 0, none⟩ = some (.pointer (some ⟨g, 0, none⟩))) (first | assumption | go_keep) (first
                | (go_at_call 22
                   refine BH.out.mono ?_
                   rintro e x6 ⟨a3, n3, c3, rfl, ho, hb⟩
                   obtain ⟨gb, rfl, hc3⟩ : ∃ gb, a3 = some ⟨gb, 0, none⟩ ∧ n1 ≤ c3 := by
                     obtain ⟨h1, ⟨hv, hn⟩ | ⟨gb, cap', cur, hv, h2, h3, h4, h5⟩⟩ := ho
                     · simp at hn
                     · simp only [Value.slice.injEq] at hv
                       obtain ⟨e1, e2, e3⟩ := hv
                       rw [List.length_append, ← L0.out.1] at h4
                       exact ⟨gb, e1, by omega⟩
                   have hc3' : (n1 : Int) ≤ (c3 : Int) := by omega
                   have hn0' : (0 : Int) ≤ (n1 : Int) := by omega
                   have W6 : Hid (Pd w x6 gp g v vL f s A ∧ OwnR kE wr.heap.size x6 (.slice (some ⟨gb, 0, none⟩) n1 c3) l ∧ OwnR kE w2.heap.size x6 (.slice a1 n1 c1) l ∧ Below w2.heap.size w2 x6) := Lib.hid ⟨W0.out.1.below hb, by
                     have h := OwnR.take okE ho n1 (by rw [List.length_append, ← L0.out.1]; omega)
                     rw [L0.out.1, List.take_left] at h
                     rw [← L0.out.1] at h
                     exact h, W0.out.2.2.1.below hb, W0.out.2.2.2.trans (hb.mono W0.out.2.2.2.size)⟩
                   have z0 : x6.cell? ⟨gp, 0, none⟩ = some (.pointer (some ⟨g, 0, none⟩)) := W6.out.1.c0
                   have PU := Lib.hid (W6.out.1.h.push (l := l) (u := .slice (some ⟨gb, 0, none⟩) n1 c3) G.out (W6.out.2.1.row okE) (W0.out.1.h.ap (Nat.le_refl _) W6.out.2.1))
                   clear ho hb)
                | (go_at_call 28
                   refine PU.out.mono ?_
                   rintro e x7 ⟨rfl, v7, s7, h7, k7, t7, e7, f7⟩
                   have W7 : Hid (Pq w x7 gp g v7 vL f s7 A ∧ OwnR kE w2.heap.size x7 (.slice a1 n1 c1) l ∧ (pushE s l ≠ 0 → s7 = s) ∧ (pushE s l = 0 → Kp s l s7)) := Lib.hid ⟨W6.out.1.pushed h7 k7 t7, W6.out.2.2.1.kept k7 (fun k hk q => by
                     have c1 := (W6.out.2.2.1.lt k hk).1
                     have c2 := R.out.1.h.h.lt k q
                     omega), e7, f7⟩
                   have z7 : x7.cell? ⟨gp, 0, none⟩ = some (.pointer (some ⟨g, 0, none⟩)) := cell_of_row _ _ 0 _ _ _ W7.out.1.p
                   have HG := Lib.hid (high_any x7 g v7 s7 W7.out.1.h.h)
                   clear h7 k7 t7 e7 f7))
              have PI := Lib.hid (pushE_iff (s := s) L0.out.2.2 (by have := SB.out; omega))
              by_cases hz : pushE s l = 0
              · rw [hz]
                have hn1 : 0 < n1 ∧ n1 ≤ 128 := by have := PI.out.1 hz; rw [← L0.out.1] at this; exact this
                have hp1 : (n1 : Int) > 0 := by omega
                have hp2 : (n1 : Int) ≤ 128 := by omega
                have K7 := Lib.hid (W7.out.2.2.2 hz)
                have ES : s7.hi = hi1 := by rw [K7.out.hi, SB.out.1]
                rw [ES] at HG
                have hne : (hi1 == hi1 - 1) = false := by rw [beq_eq_false_iff_ne]; omega
                clear hz hn1 PI PU BH W6
                go_wp2_with fail
                refine HG.out.mono ?_
                rintro e x8 ⟨rfl, rfl⟩
                go_wp2_with fail
                refine HG.out.mono ?_
                rintro e x9 ⟨rfl, rfl⟩
                have z2 : x9.cell? ⟨gp, 2, none⟩ = some vL := cell_of_row _ _ 2 _ _ _ W7.out.1.p
                obtain ⟨nL, aL, cL, rfl⟩ : ∃ n1 a1 c1, vL = .slice a1 n1 c1 := by (obtain ⟨a', c', e'⟩ := W7.out.1.l.slice; exact ⟨_, a', c', e'⟩)
                have LA : Hid ((A.length + l.length) * kE.b ≤ 140737488355328) := Lib.hid (by
                  have h1 := R.out.1.l
                  have h2 := L0.out.2.1
                  have h3 := LE.out
                  show _ * 56 ≤ _
                  omega)
                go_wp2_with (first
                  | (at_builtin; refine app_rowsA okE (B := w.heap.size) (v := .slice aL nL cL) (u := .slice a1 n1 c1) (l := A) (m := l) rfl _ _ rfl rfl W7.out.1.l W7.out.1.h.be.size rfl (W7.out.2.1.row okE) LA.out ?_; intro v10 x10 h10 g10 t10
                     obtain ⟨nM, aM, cM, rfl⟩ : ∃ n1 a1 c1, v10 = .slice a1 n1 c1 := by (obtain ⟨a', c', e'⟩ := h10.slice; exact ⟨_, a', c', e'⟩)
                     have FN : Hid (Pd w (x10.setCell ⟨gp, 2, none⟩ (.slice aM nM cM)) gp g v7 (.slice aM nM cM) f s7 (A ++ l)) := Lib.hid (W7.out.1.app h10 g10 t10 (R.out.1.pu.push K7.out (by have := SB.out; omega) L0.out.2.2))
                     have h11 : x10.heap[gp]? = _ := (g10.block gp (lt_of_some W7.out.1.p) (fun e => W7.out.1.nl gp e.symm rfl)).trans W7.out.1.p
                     have z11 : x10.cell? ⟨gp, 2, none⟩ = some (.slice aL nL cL) := cell_of_row _ _ 2 _ _ _ h11
                     have f11 := frozen_row h11 2
                     clear h10 g10 t10 h11))
                go_roundg (n' - (i + 1))
                case measure => have := GK.out; omega
                case rel => exact ⟨i + 1, v7, _, s7, A ++ l, by omega, rfl, by go_num, by rw [ES], Lib.hid ⟨FN.out, by have := SB.out; omega, by rw [List.length_append]; have := L0.out.2.1; have := LE.out; omega⟩⟩
              · have hz' : (pushE s l == 0) = false := by rw [beq_eq_false_iff_ne]; exact hz
                have S7 := W7.out.2.2.1 hz
                subst S7
                have ES : s7.hi = hi1 - 1 := by have := SB.out.1; omega
                rw [ES] at HG
                have hne : (hi1 - 1 == hi1) = false := by rw [beq_eq_false_iff_ne]; omega
                have FN : Hid (Pd w x7 gp g v7 vL f s7 A) := Lib.hid ⟨W7.out.1.p, W7.out.1.h, W7.out.1.l, W7.out.1.lo, W7.out.1.ap, R.out.1.pu⟩
                have hcase : n1 = 0 ∨ 128 < n1 := by
                  rcases Nat.eq_zero_or_pos n1 with q | q
                  · exact .inl q
                  · right
                    rcases Nat.lt_or_ge 128 n1 with c | c
                    · exact c
                    · exact absurd (PI.out.2 (by rw [← L0.out.1]; omega)) hz
                clear hz PI PU BH W6
                rcases hcase with hq | hq
                · have hp1 : ¬ (n1 : Int) > 0 := by omega
                  go_wp2_with fail
                  refine HG.out.mono ?_
                  rintro e x8 ⟨rfl, rfl⟩
                  go_wp2_with fail
                  refine HG.out.mono ?_
                  rintro e x9 ⟨rfl, rfl⟩
                  go_wp2_with fail
                  go_roundg (n' - (i + 1))
                  case measure => have := GK.out; omega
                  case rel => exact ⟨i + 1, v7, vL, s7, A, by omega, rfl, by go_num, by rw [SB.out.1], Lib.hid ⟨FN.out, by have := SB.out; omega, by have := LE.out; omega⟩⟩
                · have hp1 : (n1 : Int) > 0 := by omega
                  have hp2 : ¬ (n1 : Int) ≤ 128 := by omega
                  go_wp2_with fail
                  refine HG.out.mono ?_
                  rintro e x8 ⟨rfl, rfl⟩
                  go_wp2_with fail
                  refine HG.out.mono ?_
                  rintro e x9 ⟨rfl, rfl⟩
                  go_wp2_with fail
                  go_roundg (n' - (i + 1))
                  case measure => have := GK.out; omega
                  case rel => exact ⟨i + 1, v7, vL, s7, A, by omega, rfl, by go_num, by rw [SB.out.1], Lib.hid ⟨FN.out, by have := SB.out; omega, by have := LE.out; omega⟩⟩
      · have E400 := N4.out
        rcases Nat.lt_or_ge i n with hq | hq
        · have hqn : (i : Int) < (n : Int) := by omega
          have hq3 : ¬ (i : Int) < 400 := by omega
          go_wp2_with fail
          go_ret2
          have hfin : s.hi ≤ 576460752303423888 ∧ A.length ≤ 120000 := by have := SB.out; have := LE.out; omega
          first | exact .inr ⟨gp, g, v, vL, s, A, rfl, R.out.1, hfin⟩ | exact .inr ⟨gp, rfl, g, v, vL, s, A, R.out.1, hfin⟩ | exact .inr ⟨gp, rfl, g, v, vL, s, ⟨A, R.out.1⟩, hfin⟩
        · have hqn : ¬ (i : Int) < (n : Int) := by omega
          go_wp2_with fail
          go_ret2
          have hfin : s.hi ≤ 576460752303423888 ∧ A.length ≤ 120000 := by have := SB.out; have := LE.out; omega
          first | exact .inr ⟨gp, g, v, vL, s, A, rfl, R.out.1, hfin⟩ | exact .inr ⟨gp, rfl, g, v, vL, s, A, R.out.1, hfin⟩ | exact .inr ⟨gp, rfl, g, v, vL, s, ⟨A, R.out.1⟩, hfin⟩
end Wt
end Go.Proofs.YtoocpbpdoaplgaaDoor
