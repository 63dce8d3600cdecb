/-
  The document's Since.
-/
import Derived.Test.YtfkoiehnkelpoaaDoorWpB
import Derived.Test.YtfkoiehnkelpoaaDoorWtH
namespace Go.Proofs.YtfkoiehnkelpoaaDoor
open Go.RowKit
namespace Wt
theorem inL_eqv {s : St} (o : s.Ok) {ver x : Int} (path : ByteArray) (h : ver ≤ x) : s.es.filter (fun e => decide (e.v = x + 1) && L.underB e.p path) = (inL s ver path).filter (eqv (x + 1)) := by
  rw [inL_eq o, List.filter_filter]
  refine List.filter_congr fun e _ => ?_
  by_cases q : e.v = x + 1
  · have : ver < e.v := by omega
    simp [eqv, gt, q]
    intro _; omega
  · simp [eqv, q]
set_option maxHeartbeats 16000000 in
set_option maxRecDepth 100000 in
theorem rsince_any (w : World) (g : Nat) (v : Value) (s : St) (ver : Int) (path : ByteArray) (most : Int) (hp : path.size ≤ 1048576) (H : Rb w g v s) (ok : s.Ok) (hz : ∀ e ∈ s.es, e.p.size ≤ 1048576) :
    Calls Tryd.prog 38 #[.pointer (some ⟨g, 0, none⟩), .int .i64 ver, .string path, .int .i64 most] w fun e w' => ∃ a n c x, e = .returned (.tuple #[.slice a n c, .int .i64 x, .int .i64 (sinE s ver path most)]) ∧ Si w s ver path most (.slice a n c) x w' := by
  obtain ⟨lo, hi, es⟩ := s
  have H' := Lib.hid H
  have OK := Lib.hid ok
  have SZ := Lib.hid hz
  obtain ⟨b0, b1, b2⟩ := ok.b
  simp only at b0 b1 b2
  have PA := Lib.hid (L.refPath_any path w hp)
  have PE : Hid (∀ e, e = sinE ⟨lo, hi, es⟩ ver path most → e ≠ 0 → ∀ w', Below w.heap.size w w' → ∃ a n c x, Ending.returned (.tuple #[.slice none 0 0, .int .i64 0, .int .i64 e]) = .returned (.tuple #[.slice a n c, .int .i64 x, .int .i64 (sinE ⟨lo, hi, es⟩ ver path most)]) ∧ Si w ⟨lo, hi, es⟩ ver path most (.slice a n c) x w') := Lib.hid fun e he h0 w' hb => ⟨none, 0, 0, 0, by rw [he], hb, fun _ => ⟨rfl, rfl⟩, fun q => absurd (he.trans q) h0⟩
  clear H ok hz hp
  go_enter Tryd.func38, Tryd.ntmps38
  by_cases h1 : most < 1
  · have E : Hid (1 = sinE ⟨lo, hi, es⟩ ver path most) := Lib.hid (by unfold sinE; rw [if_pos (.inl h1)])
    go_wp2_with fail
    go_ret3
    exact PE.out 1 E.out (by decide) _ (Below.refl _ _)
  by_cases h2 : most > 100
  · have E : Hid (1 = sinE ⟨lo, hi, es⟩ ver path most) := Lib.hid (by unfold sinE; rw [if_pos (.inr h2)])
    go_wp2_with fail
    go_ret3
    exact PE.out 1 E.out (by decide) _ (Below.refl _ _)
  have E0 : Hid (sinE ⟨lo, hi, es⟩ ver path most = if L.splitE path ≠ 0 then 41 else if ver < lo then 220 else if hi < ver then 221 else 0) := Lib.hid (by unfold sinE; rw [if_neg (by omega)])
  go_wp2_with fail
  refine PA.out.mono ?_
  rintro e w1 ⟨rfl, hb⟩
  have B1 := Lib.hid hb
  have H1 : Hid (Rb w1 g v ⟨lo, hi, es⟩) := Lib.hid (H'.out.below hb)
  clear hb PA
  have c0 := H1.out.c0
  have c1 := H1.out.c1
  simp only at c0 c1
  by_cases h3 : L.splitE path = 0
  · rw [h3]
    by_cases h4 : ver < lo
    · have E : Hid (220 = sinE ⟨lo, hi, es⟩ ver path most) := Lib.hid (by rw [E0.out, if_neg (by simpa using h3), if_pos h4])
      clear h3
      go_wp2_with fail
      go_ret3
      exact PE.out 220 E.out (by decide) _ B1.out
    by_cases h5 : ver > hi
    · have E : Hid (221 = sinE ⟨lo, hi, es⟩ ver path most) := Lib.hid (by rw [E0.out, if_neg (by simpa using h3), if_neg h4, if_pos h5])
      clear h3
      go_wp2_with fail
      go_ret3
      exact PE.out 221 E.out (by decide) _ B1.out
    have E : Hid (sinE ⟨lo, hi, es⟩ ver path most = 0) := Lib.hid (by rw [E0.out, if_neg (by simpa using h3), if_neg h4, if_neg h5])
    clear h3 PE E0
    obtain ⟨I, hI⟩ : ∃ I, I = inL ⟨lo, hi, es⟩ ver path := ⟨_, rfl⟩
    have HI : Hid (I = inL ⟨lo, hi, es⟩ ver path) := Lib.hid hI
    have SI : Hid (I.Pairwise (fun a b => a.v ≤ b.v) ∧ (∀ e ∈ I, ver < e.v) ∧ I.length ≤ 128) := Lib.hid ⟨by rw [hI]; exact inL_sorted OK.out ver path, fun e he => by rw [hI, inL_eq OK.out] at he; have := (List.mem_filter.1 he).2; simp at this; exact this.1, by rw [hI, inL_eq OK.out]; exact Nat.le_trans (List.length_filter_le _ _) OK.out.n⟩
    have OF : Hid (∀ x, ver ≤ x → ∀ wr, Rb wr g v ⟨lo, hi, es⟩ → Calls Tryd.prog 56 #[.pointer (some ⟨g, 0, none⟩), .int .i64 (x + 1), .string path] wr fun e w' => ∃ v', e = .returned v' ∧ OwnR kE wr.heap.size w' v' (I.filter (eqv (x + 1))) ∧ Below wr.heap.size wr w') := Lib.hid fun x hx wr hr => by
      have := rof_any (x + 1) path wr g v ⟨lo, hi, es⟩ hr SZ.out (Nat.le_trans OK.out.n (by decide))
      rw [inL_eqv OK.out path hx, ← hI] at this
      exact this
    clear hI
    have h4' : lo ≤ ver := by omega
    have h5' : ver ≤ hi := by omega
    go_wp2_with fail
    go_loopg [11, 12] (hi - ver).toNat (fun gk so si wr => ∃ (x : Int) (a1 : Option Addr) (n1 c1 : Nat), ver ≤ x ∧ x ≤ hi ∧ gk = (hi - x).toNat ∧ so = .slice a1 n1 c1 ∧ si = .int .i64 (x + 1) ∧ Hid (OwnR kE w.heap.size wr (.slice a1 n1 c1) (I.filter (le x)) ∧ Jn I most x ∧ Below w.heap.size w wr))
    case atStart =>
      obtain ⟨j1, j2⟩ := jn_start I most ver (by omega) SI.out.2.1
      exact ⟨ver, none, 0, 0, Int.le_refl _, h5', rfl, rfl, by go_num, Lib.hid ⟨by rw [j1]; exact OwnR.nil _ _ _, j2, B1.out⟩⟩
    case round =>
      clear c0 c1
      obtain ⟨x, a1, n1, c1, hx1, hx2, hgk, rfl, rfl, R⟩ := hrel
      have G := Lib.hid hgk
      have LN : Hid (n1 = (I.filter (le x)).length) := Lib.hid (by obtain ⟨_, _, e, -, -⟩ := (R.out.1.row okE).len; injection e)
      have hn1 : n1 ≤ 128 := by rw [LN.out]; exact Nat.le_trans (List.length_filter_le _ _) SI.out.2.2
      have d1 := (H'.out.below R.out.2.2).c1
      simp only at d1
      clear hgk
      by_cases hx : x < hi
      · have hx' : x + 1 ≤ hi := by omega
        have OX := Lib.hid (OF.out x hx1 wr (H'.out.below R.out.2.2))
        go_wp2_with fail
        refine OX.out.mono ?_
        rintro e w3 ⟨v3, rfl, ho, hb⟩
        obtain ⟨a3, c3, rfl, hlc3, hcm3⟩ := (ho.row okE).len
        have O3 : Hid (OwnR kE w.heap.size w3 (.slice a1 n1 c1) (I.filter (le x)) ∧ Row kE w3 (.slice a3 (I.filter (eqv (x + 1))).length c3) (I.filter (eqv (x + 1))) ∧ Below w.heap.size w w3) := Lib.hid ⟨R.out.1.below hb, ho.row okE, R.out.2.2.trans (hb.mono R.out.2.2.size)⟩
        have J3 : Hid (Jn I most x) := Lib.hid R.out.2.1
        obtain ⟨n3, hn3⟩ : ∃ n3, n3 = (I.filter (eqv (x + 1))).length := ⟨_, rfl⟩
        have LN3 := Lib.hid hn3
        have hl3 : n3 ≤ 128 := by rw [hn3]; exact Nat.le_trans (List.length_filter_le _ _) SI.out.2.2
        rw [← hn3] at O3 hlc3 ⊢
        clear hn3 ho hb OX R d1 hcm3 hlc3
        have JS : Hid (∀ q : ¬ (0 < n1 ∧ 0 < n3 ∧ most < (n1 : Int) + n3), Jn I most (x + 1)) := Lib.hid fun q => jn_step SI.out.1 J3.out (by rw [← LN.out, ← LN3.out]; exact q)
        have LZ : Hid (((I.filter (le x)).length + (I.filter (eqv (x + 1))).length) * kE.b ≤ 140737488355328) := Lib.hid (by
          rw [← LN.out, ← LN3.out]
          show _ * 56 ≤ _
          omega)
        have FJ : Hid (I.filter (le x) ++ I.filter (eqv (x + 1)) = I.filter (le (x + 1))) := Lib.hid (le_eqv I SI.out.1 x)
        by_cases hA : n1 > 0
        · have hA' : (n1 : Int) > 0 := by omega
          by_cases hB : n3 > 0
          · have hB' : (n3 : Int) > 0 := by omega
            by_cases hC : (n1 : Int) + n3 > most
            · have CU : Hid (sinL ⟨lo, hi, es⟩ ver path most = I.filter (le x) ∧ sinV ⟨lo, hi, es⟩ ver path most = ((I.filter (le x)).getD ((I.filter (le x)).length - 1) Ev.z).v) := Lib.hid (by
                have := since_cut OK.out ver path (most := most) (v := x) (by omega) (by rw [← HI.out]; exact J3.out) (by rw [← HI.out, ← LN.out]; exact hA) (by rw [← HI.out, ← LN3.out]; exact hB) (by rw [← HI.out, ← LN.out, ← LN3.out]; omega)
                rw [← HI.out] at this
                exact this)
              obtain ⟨M, hMN⟩ : ∃ M, n1 = M + 1 := ⟨n1 - 1, by omega⟩
              obtain ⟨bb, off, rfl, k0, -⟩ := row_at (O3.out.1.row okE) M (by rw [← LN.out]; omega)
              obtain ⟨y, hy⟩ : ∃ y, y = ((I.filter (le x)).getD M Ev.z).v := ⟨_, rfl⟩
              rw [← hy] at k0
              have HY : Hid (y = sinV ⟨lo, hi, es⟩ ver path most) := Lib.hid (by rw [CU.out.2, ← LN.out, hMN, hy]; rfl)
              clear hy
              have hwr : IntKind.i64.wrap ((n1 : Int) - 1) = (M : Int) := by rw [show (n1 : Int) - 1 = (M : Int) by omega, IntKind.wrap_i64]; omega
              have hM0 : (0 : Int) ≤ (M : Int) := by omega
              have hM : (M : Int) < (n1 : Int) := by omega
              have k0' : w3.drew.cell? ⟨bb, off + M * 5, none⟩ = some (.int .i64 y) := k0
              clear hMN
              go_wp2_with fail
              go_region_held3 (fun W : World => W.cell? ⟨bb, off + M * 5, none⟩ = some (.int .i64 y)) (first | assumption | go_keep) (fail)
              go_wp2_with fail
              go_ret3
              refine ⟨_, _, _, _, by rw [E.out]; rfl, O3.out.2.2.trans ((below_drawn _ 1).mono O3.out.2.2.size), fun q => absurd E.out q, fun _ => ⟨?_, HY.out⟩⟩
              rw [CU.out.1]
              exact O3.out.1.below (below_drawn _ 1)
            · have JX := Lib.hid (JS.out (by omega))
              go_wp2_with (at_builtin; refine app_rows okE rfl _ _ rfl (v := .slice a1 n1 c1) (u := .slice a3 n3 c3) rfl O3.out.1 O3.out.2.2.size rfl O3.out.2.1 LZ.out ?_; intro v' w' h1 h2)
              obtain ⟨a2, d2, rfl⟩ := h1.slice
              have A : Hid (OwnR kE w.heap.size w' (.slice a2 _ d2) (I.filter (le (x + 1))) ∧ Jn I most (x + 1) ∧ Below w.heap.size w w') := Lib.hid ⟨by rw [← FJ.out]; exact h1, JX.out, O3.out.2.2.grown h2 O3.out.2.2.size (fun j hj => (O3.out.1.lt j hj).1)⟩
              clear h1 h2
              go_wp2_with fail
              go_roundg ((hi - (x + 1)).toNat)
              case measure => have := G.out; omega
              case rel => exact ⟨x + 1, a2, _, d2, by omega, hx', rfl, rfl, by go_num, A⟩
          · obtain rfl : n3 = 0 := by omega
            have JX := Lib.hid (JS.out (by omega))
            go_wp2_with (at_builtin; refine app_rows okE rfl _ _ rfl (v := .slice a1 n1 c1) (u := .slice a3 0 c3) rfl O3.out.1 O3.out.2.2.size rfl O3.out.2.1 LZ.out ?_; intro v' w' h1 h2)
            obtain ⟨a2, d2, rfl⟩ := h1.slice
            have A : Hid (OwnR kE w.heap.size w' (.slice a2 _ d2) (I.filter (le (x + 1))) ∧ Jn I most (x + 1) ∧ Below w.heap.size w w') := Lib.hid ⟨by rw [← FJ.out]; exact h1, JX.out, O3.out.2.2.grown h2 O3.out.2.2.size (fun j hj => (O3.out.1.lt j hj).1)⟩
            clear h1 h2
            go_wp2_with fail
            go_roundg ((hi - (x + 1)).toNat)
            case measure => have := G.out; omega
            case rel => exact ⟨x + 1, a2, _, d2, by omega, hx', rfl, rfl, by go_num, A⟩
        · obtain rfl : n1 = 0 := by omega
          have JX := Lib.hid (JS.out (by omega))
          go_wp2_with (at_builtin; refine app_rows okE rfl _ _ rfl (v := .slice a1 0 c1) (u := .slice a3 n3 c3) rfl O3.out.1 O3.out.2.2.size rfl O3.out.2.1 LZ.out ?_; intro v' w' h1 h2)
          obtain ⟨a2, d2, rfl⟩ := h1.slice
          have A : Hid (OwnR kE w.heap.size w' (.slice a2 _ d2) (I.filter (le (x + 1))) ∧ Jn I most (x + 1) ∧ Below w.heap.size w w') := Lib.hid ⟨by rw [← FJ.out]; exact h1, JX.out, O3.out.2.2.grown h2 O3.out.2.2.size (fun j hj => (O3.out.1.lt j hj).1)⟩
          clear h1 h2
          go_wp2_with fail
          go_roundg ((hi - (x + 1)).toNat)
          case measure => have := G.out; omega
          case rel => exact ⟨x + 1, a2, _, d2, by omega, hx', rfl, rfl, by go_num, A⟩
      · obtain rfl : x = hi := by omega
        have EN : Hid (sinL ⟨lo, x, es⟩ ver path most = I.filter (le x) ∧ sinV ⟨lo, x, es⟩ ver path most = x) := Lib.hid (by
          have := since_end OK.out ver path (most := most) (by rw [← HI.out]; exact R.out.2.1)
          rw [← HI.out] at this
          exact ⟨this.1.trans this.2.1.symm, this.2.2⟩)
        have d1' : wr.drew.cell? ⟨g, 1, none⟩ = some (.int .i64 x) := d1
        have hxx : ¬ x + 1 ≤ x := by omega
        go_wp2_with fail
        go_region_held3 (fun W : World => W.cell? ⟨g, 1, none⟩ = some (.int .i64 x)) (first | assumption | go_keep) (fail)
        go_wp2_with fail
        go_ret3
        refine ⟨_, _, _, _, by rw [E.out]; rfl, R.out.2.2.trans ((below_drawn _ 1).mono R.out.2.2.size), fun q => absurd E.out q, fun _ => ⟨?_, EN.out.2.symm⟩⟩
        rw [EN.out.1]
        exact R.out.1.below (below_drawn _ 1)
  · have g3 : (L.splitE path == 0) = false := by rw [beq_eq_false_iff_ne]; exact h3
    have E : Hid (41 = sinE ⟨lo, hi, es⟩ ver path most) := Lib.hid (by rw [E0.out, if_pos h3])
    clear h3
    go_wp2_with fail
    go_ret3
    exact PE.out 41 E.out (by decide) _ B1.out
end Wt
end Go.Proofs.YtfkoiehnkelpoaaDoor
