/-
  THE WALK of PackMemory.
-/
import Derived.Test.YtmabmmmiljkeeaaMem2
namespace Go.Proofs.Ytmabmmmiljkeeaa
open Go.RowKit

set_option maxHeartbeats 40000000 in
set_option maxRecDepth 100000 in
theorem packMemory_walk (v : Value) (xs : List V) (vt : Value) (ts : List ByteArray) (w : World) (hv : Vals w v xs) (hx : ∀ x ∈ xs, x.fits) (ht : Strs w vt ts) (hts : (∀ t ∈ ts, t.size ≤ 140737488355328) ∧ ts.length ≤ 8796093021952) :
    Calls Try.prog 5 #[v, vt] w fun e w' => e = .returned (.bool true) ∧ Below w.heap.size w w' := by
  obtain ⟨a, cap, rfl, hlc, hcm⟩ := hv.len
  obtain ⟨at', capt, rfl, htc, htm⟩ := ht.len
  unfold maxLen at hcm htm
  have Vv : Aside (Vals w (.slice a xs.length cap) xs ∧ (∀ x ∈ xs, x.fits) ∧ Strs w (.slice at' ts.length capt) ts ∧ (∀ t ∈ ts, t.size ≤ 140737488355328)) := ⟨hv, hx, ht, hts.1⟩
  have hn := hts.2
  clear hv hx ht hts
  go_enter Try.func5, Try.ntmps5
  go_wp2_with fail
  refine (fixed_any w).mono ?_
  rintro e w1 ⟨rfl, hb⟩
  have B1 : Aside (Below w.heap.size w w1) := hb
  clear hb
  go_wp2_with fail
  refine (small_any _ xs w1 (Vv.out.1.below B1.out) Vv.out.2.1).mono ?_
  rintro e w2 ⟨v2, rfl, ho, hb⟩
  obtain ⟨ys, hys⟩ : ∃ ys, ys = sm xs 0 := ⟨_, rfl⟩
  rw [← hys] at ho
  have Y : Aside ((∀ x ∈ ys, x.fits ∧ x.ok) ∧ (encs ys).length ≤ 1048576) := by
    rw [hys]
    have h := sm_len xs 0 Vv.out.2.1 (by omega)
    exact ⟨sm_all xs 0 Vv.out.2.1, by omega⟩
  have yl : ys.length ≤ 104857 := by
    have h := sm_len xs 0 Vv.out.2.1 (by omega)
    rw [← hys] at h; omega
  clear hys
  obtain ⟨a2, cap2, rfl, hc2, hm2⟩ := ho.vals.len
  unfold maxLen at hm2
  have B2 : Aside (Below w.heap.size w w2 ∧ Vals w2 (.slice a2 ys.length cap2) ys) := ⟨B1.out.trans (hb.mono B1.out.size), ho.vals⟩
  clear ho hb
  go_wp2_with fail
  refine (newWriter_any 1048576 w2).mono ?_
  rintro e w3 ⟨rfl, hw, _, hb⟩
  have A3 : Aside (WAt w2.heap.size w3 w2.heap.size (.slice none 0 0) ⟨[], 1048576, 0⟩ ∧ Below w2.heap.size w2 w3) := ⟨hw, hb⟩
  obtain ⟨gw, hgw⟩ : ∃ gw, gw = w2.heap.size := ⟨_, rfl⟩
  rw [← hgw]
  have GW : Aside (gw = w2.heap.size) := hgw
  clear hw hb hgw
  go_wp2_with fail
  go_loopg [7] ys.length (fun g si wr => ∃ (k : Nat) (u : Value), k ≤ ys.length ∧ g = ys.length - k ∧ si = .int .i64 k ∧ WAt w2.heap.size wr gw u ((ys.take k).foldl WS.put ⟨[], 1048576, 0⟩) ∧ Below w2.heap.size w2 wr)
  case atStart => exact ⟨0, _, Nat.zero_le _, rfl, rfl, by rw [GW.out]; exact A3.out.1, A3.out.2⟩
  case round =>
    obtain ⟨k, u, hk, hg, rfl, hw, hb⟩ := hrel
    have R : Aside (gk = ys.length - k ∧ WAt w2.heap.size wr gw u ((ys.take k).foldl WS.put ⟨[], 1048576, 0⟩) ∧ Below w2.heap.size w2 wr) := ⟨hg, hw, hb⟩
    clear hg hw hb
    by_cases hlt : k < ys.length
    · obtain ⟨b, off, rfl, p0, p1, p2, p3⟩ := (B2.out.2.below R.out.2.2).at k hlt
      obtain ⟨x, hxx⟩ : ∃ x, x = ys.getD k ⟨0, 0, 0, ⟨#[]⟩⟩ := ⟨_, rfl⟩
      rw [← hxx] at p0 p1 p2 p3
      have hmem : x ∈ ys := by rw [hxx]; simp [List.getD, hlt]
      have X : Aside (x = ys.getD k ⟨0, 0, 0, ⟨#[]⟩⟩ ∧ x.fits) := ⟨hxx, (Y.out.1 x hmem).1⟩
      clear hxx hmem
      go_wp2_with fail
      refine (lay_any w2.heap.size gw u _ x wr X.out.2 R.out.2.1).mono ?_
      rintro e w4 ⟨rfl, hl⟩
      have L : Aside (Laid w2.heap.size gw u (((ys.take k).foldl WS.put ⟨[], 1048576, 0⟩).put x) wr w4) := hl
      clear hl p0 p1 p2 p3
      go_wp2_with fail
      go_roundg (ys.length - (k + 1))
      case measure => have := R.out.1; omega
      case rel =>
        have hB := R.out.2.2.trans (L.out.below R.out.2.1)
        obtain ⟨u', hw, _, _⟩ := L.out
        refine ⟨k + 1, u', by omega, rfl, by go_num, ?_, hB⟩
        rw [take_one ys k ⟨0, 0, 0, ⟨#[]⟩⟩ hlt, List.foldl_append, ← X.out.1]; exact hw
    · have R2 : Aside (WAt w2.heap.size wr gw u ⟨encs ys, 1048576, 0⟩ ∧ Below w2.heap.size w2 wr ∧ Below w.heap.size w wr) := by
        have h := R.out.2
        rw [List.take_of_length_le (by omega)] at h
        have ew := wrt_ok ys (fun x hx => (Y.out.1 x hx).2) Y.out.2
        unfold wrt at ew
        rw [ew] at h
        exact ⟨h.1, h.2, B2.out.1.trans (h.2.mono B2.out.1.size)⟩
      clear R
      obtain ⟨L, hL⟩ : ∃ L, L = encs ys := ⟨_, rfl⟩
      have LL : Aside (L.length ≤ 1048576 ∧ (⟨encs ys, 1048576, 0⟩ : WS) = ⟨L, 1048576, 0⟩) := ⟨by rw [hL]; exact Y.out.2, by rw [hL]⟩
      rw [LL.out.2] at R2
      clear hL
      go_wp2_with fail
      refine (wOut_any _ _ _ _ wr R2.out.1).mono ?_
      rintro e w5 ⟨v5, rfl, ho, hb⟩
      obtain ⟨a5, n5, c5, hv5⟩ : ∃ a n c, Aside (v5 = .slice a n c) := by obtain ⟨a, cap, e, _⟩ := ho.bytes.len; exact ⟨a, _, cap, e⟩
      have A5 : Aside (Own wr.heap.size w5 v5 L ∧ Below wr.heap.size wr w5 ∧ WAt w2.heap.size w5 gw u ⟨L, 1048576, 0⟩) := ⟨ho, hb, R2.out.1.below hb⟩
      clear ho hb
      go_wp2_with fail
      refine (wOut_any _ _ _ _ w5 A5.out.2.2).mono ?_
      rintro e w6 ⟨v6, rfl, ho, hb⟩
      obtain ⟨a6, n6, c6, hv6⟩ : ∃ a n c, Aside (v6 = .slice a n c) := by obtain ⟨a, cap, e, _⟩ := ho.bytes.len; exact ⟨a, _, cap, e⟩
      have A6 : Aside (Own w5.heap.size w6 v6 L ∧ Below w5.heap.size w5 w6 ∧ WAt w2.heap.size w6 gw u ⟨L, 1048576, 0⟩ ∧ Own wr.heap.size w6 v5 L) := ⟨ho, hb, A5.out.2.2.below hb, A5.out.1.below hb⟩
      clear ho hb
      go_wp2_with fail
      refine (own_any v5 L w6 A6.out.2.2.2.bytes (by have := LL.out.1; omega)).mono ?_
      rintro e w7 ⟨v7, rfl, ho, hb⟩
      have A7 : Aside (Own w6.heap.size w7 v7 L ∧ Below w6.heap.size w6 w7 ∧ WAt w2.heap.size w7 gw u ⟨L, 1048576, 0⟩ ∧ Own wr.heap.size w7 v5 L ∧ Own w5.heap.size w7 v6 L) := ⟨ho, hb, A6.out.2.2.1.below hb, A6.out.2.2.2.below hb, A6.out.1.below hb⟩
      have SZ : Aside (w.heap.size ≤ w2.heap.size ∧ w2.heap.size ≤ wr.heap.size ∧ wr.heap.size ≤ w5.heap.size ∧ w5.heap.size ≤ w6.heap.size ∧ w6.heap.size ≤ w7.heap.size) := ⟨B2.out.1.size, R2.out.2.1.size, A5.out.2.1.size, A6.out.2.1.size, hb.size⟩
      have B7 : Aside (Below w.heap.size w w7) := by
        have s := SZ.out
        exact ((R2.out.2.2.trans (A5.out.2.1.mono (by omega))).trans (A6.out.2.1.mono (by omega))).trans (hb.mono (by omega))
      obtain ⟨w4, hw4⟩ : ∃ w4, w4 = wr := ⟨_, rfl⟩
      rw [← hw4] at A5 A6 A7 SZ R2
      clear ho hb hw4
      go_wp2_with fail
      go_loopg [13, 14] ts.length (fun g ss si wr => ∃ (k : Nat) (q : Int), k ≤ ts.length ∧ g = ts.length - k ∧ si = .int .i64 k ∧ ss = .int .i64 q ∧ (ts.length ≤ 4096 → q = tsum (ts.take k)) ∧ wr = w7)
      case atStart => exact ⟨0, 2, Nat.zero_le _, rfl, rfl, rfl, fun _ => rfl, rfl⟩
      case round =>
        obtain ⟨k, q, hk, hg, rfl, rfl, hq, rfl⟩ := hrel
        have R : Aside (gk = ts.length - k ∧ (ts.length ≤ 4096 → q = tsum (ts.take k))) := ⟨hg, hq⟩
        clear hg hq
        by_cases hlt : k < ts.length
        · obtain ⟨b, off, rfl, p0⟩ := (Vv.out.2.2.1.below B7.out).at k hlt
          obtain ⟨t, ht⟩ : ∃ t, t = ts.getD k ⟨#[]⟩ := ⟨_, rfl⟩
          rw [← ht] at p0
          have T : Aside (t = ts.getD k ⟨#[]⟩) := ht
          have tl : t.size ≤ 140737488355328 := Vv.out.2.2.2 t (by rw [ht]; simp [List.getD, hlt])
          clear ht
          by_cases hsm : ts.length ≤ 4096
          · have hqb : 0 ≤ q ∧ q ≤ 2 + 4096 * 140737488355338 := by
              have h1 := R.out.2 hsm
              have h2 := tsum_le' (ts.take k) (fun t ht => Vv.out.2.2.2 t (List.mem_of_mem_take ht))
              have h3 : (ts.take k).length ≤ 4096 := by rw [List.length_take]; omega
              have h4 : (ts.take k).length * 140737488355338 ≤ 4096 * 140737488355338 := Nat.mul_le_mul_right _ h3
              omega
            obtain ⟨q0, q1⟩ := hqb
            go_wp2_with fail
            go_roundg (ts.length - (k + 1))
            case measure => have := R.out.1; omega
            case rel =>
              refine ⟨k + 1, _, by omega, rfl, by go_num, rfl, fun h => ?_, rfl⟩
              rw [tsum_take ts k hlt, ← T.out, R.out.2 h]
              push_cast; omega
          · go_wp2_with fail
            go_roundg (ts.length - (k + 1))
            case measure => have := R.out.1; omega
            case rel => exact ⟨k + 1, _, by omega, rfl, by go_num, rfl, fun h => absurd h hsm, rfl⟩
        · have RQ : Aside (ts.length ≤ 4096 → q = tsum ts) := by
            have := R.out.2; rw [List.take_of_length_le (by omega)] at this; exact this
          clear R
          go_wp2_with fail
          refine (same_any _ _ _ _ wr A7.out.2.2.2.1.bytes A7.out.2.2.2.2.bytes).mono ?_
          rintro e wr ⟨rfl, rfl⟩
          rw [decide_eq_true rfl]
          by_cases hgo : ts.length ≤ 4096 ∧ tsum ts ≤ 1048576
          · obtain ⟨hsm, hsu⟩ := hgo
            have hsm' : decide ((4096 : Int) < (ts.length : Int)) = false := by rw [decide_eq_false_iff_not]; omega
            have hqe := RQ.out hsm
            subst hqe
            have hsu' : decide ((1048576 : Int) < (tsum ts : Int)) = false := by rw [decide_eq_false_iff_not]; omega
            have hsm2 : (ts.length : Int) ≤ 4096 := by omega
            have hsu2 : (tsum ts : Int) ≤ 1048576 := by omega
            obtain ⟨tl1, tl2⟩ := tsum_bound ts hsm Vv.out.2.2.2 hsu
            obtain ⟨TL, hTL⟩ : ∃ TL, TL = tlist ts := ⟨_, rfl⟩
            have ub := untE_back ts [] hsm tl2 tl1
            rw [List.append_nil] at ub
            have TT : Aside (TL.length ≤ 1048576 ∧ txs ts = ⟨TL, 1048576, 0⟩ ∧ untE TL = 0 ∧ untT TL = ts) := by
              rw [hTL]; exact ⟨tl1, txs_ok ts hsm tl1, ub.1.2 rfl, ub.2 rfl⟩
            clear tl1 tl2 hTL ub
            go_wp2_with fail
            refine (ownTexts_any _ ts wr (Vv.out.2.2.1.below B7.out) hn).mono ?_
            rintro e w8 ⟨v8, rfl, ho, hb⟩
            have A8 : Aside (Strs w8 v8 ts ∧ Below wr.heap.size wr w8) := ⟨ho.strs, hb⟩
            clear ho hb
            go_wp2_with fail
            refine (texts_any v8 ts w8 A8.out.1 Vv.out.2.2.2).mono ?_
            rintro e w9 ⟨v9, rfl, ho, hb⟩
            rw [TT.out.2.1] at ho ⊢
            have ho' : Own w8.heap.size w9 v9 TL := ho
            obtain ⟨a9, n9, c9, hv9⟩ : ∃ a n c, Aside (v9 = .slice a n c) := by obtain ⟨a, cap, e, _⟩ := ho'.bytes.len; exact ⟨a, _, cap, e⟩
            have A9 : Aside (Own w8.heap.size w9 v9 TL ∧ Below wr.heap.size wr w9 ∧ w8.heap.size ≤ w9.heap.size ∧ wr.heap.size ≤ w8.heap.size) := ⟨ho', A8.out.2.trans (hb.mono A8.out.2.size), hb.size, A8.out.2.size⟩
            clear ho ho' hb
            go_wp2_with fail
            refine (ownTexts_any _ ts w9 (Vv.out.2.2.1.below (B7.out.trans (A9.out.2.1.mono B7.out.size))) hn).mono ?_
            rintro e w10 ⟨v10, rfl, ho, hb⟩
            have A10 : Aside (Strs w10 v10 ts ∧ Below w9.heap.size w9 w10) := ⟨ho.strs, hb⟩
            clear ho hb
            go_wp2_with fail
            refine (texts_any v10 ts w10 A10.out.1 Vv.out.2.2.2).mono ?_
            rintro e w11 ⟨v11, rfl, ho, hb⟩
            rw [TT.out.2.1] at ho ⊢
            have ho' : Own w10.heap.size w11 v11 TL := ho
            obtain ⟨a11, n11, c11, hv11⟩ : ∃ a n c, Aside (v11 = .slice a n c) := by obtain ⟨a, cap, e, _⟩ := ho'.bytes.len; exact ⟨a, _, cap, e⟩
            have A11 : Aside (Own w10.heap.size w11 v11 TL ∧ Below w9.heap.size w9 w11 ∧ w10.heap.size ≤ w11.heap.size ∧ w9.heap.size ≤ w10.heap.size ∧ Own w8.heap.size w11 v9 TL) :=
              ⟨ho', A10.out.2.trans (hb.mono A10.out.2.size), hb.size, A10.out.2.size, (A9.out.1.below A10.out.2).below hb⟩
            clear ho ho' hb
            go_wp2_with fail
            refine (own_any v9 TL w11 A11.out.2.2.2.2.bytes (by have := TT.out.1; omega)).mono ?_
            rintro e w12 ⟨v12, rfl, ho, hb⟩
            have A12 : Aside (Own w11.heap.size w12 v12 TL ∧ Below w11.heap.size w11 w12 ∧ Own w8.heap.size w12 v9 TL) := ⟨ho, hb, A11.out.2.2.2.2.below hb⟩
            clear ho hb
            go_wp2_with fail
            refine (untexts_any v9 TL w12 A12.out.2.2.bytes).mono ?_
            rintro e w13 ⟨v13, rfl, ho, hb⟩
            rw [TT.out.2.2.1]
            rw [TT.out.2.2.2] at ho
            obtain ⟨a13, c13, rfl, hc13, hm13⟩ := ho.len
            unfold maxLen at hm13
            have A13 : Aside (OwnS w12.heap.size w13 (.slice a13 ts.length c13) ts ∧ Below w12.heap.size w12 w13 ∧ Own w8.heap.size w13 v9 TL) := ⟨ho, hb, A12.out.2.2.below hb⟩
            clear ho hb
            go_wp2_with fail
            refine (untexts_any v9 TL w13 A13.out.2.2.bytes).mono ?_
            rintro e w14 ⟨v14, rfl, ho, hb⟩
            rw [TT.out.2.2.1]
            rw [TT.out.2.2.2] at ho
            obtain ⟨a14, c14, rfl, hc14, hm14⟩ := ho.len
            unfold maxLen at hm14
            have A14 : Aside (OwnS w13.heap.size w14 (.slice a14 ts.length c14) ts ∧ Below w13.heap.size w13 w14 ∧ Own w8.heap.size w14 v9 TL ∧ Own w10.heap.size w14 v11 TL) := ⟨ho, hb, A13.out.2.2.below hb, ((A11.out.1.below A12.out.2.1).below A13.out.2.1).below hb⟩
            clear ho hb
            go_wp2_with fail
            refine (same_any _ _ _ _ w14 A14.out.2.2.1.bytes A14.out.2.2.2.bytes).mono ?_
            rintro e w14 ⟨rfl, rfl⟩
            rw [decide_eq_true rfl]
            obtain ⟨u0, hu0⟩ : ∃ u0, u0 = pick4 v5 v6 v9 v11 := ⟨_, rfl⟩
            obtain ⟨l0, hl0⟩ : ∃ l0, l0 = pick4 L L TL TL := ⟨_, rfl⟩
            obtain ⟨f0, hf0⟩ : ∃ f0, f0 = fLab w4.heap.size w5.heap.size w6.heap.size wr.heap.size w9.heap.size w11.heap.size w12.heap.size w13.heap.size w14.heap.size := ⟨_, rfl⟩
            have M0 : Aside (Mem w2.heap.size (w14.alloc (.cells #[v5, v6, v9, v11] 23)) f0 w14.heap.size u0 l0 gw u ⟨L, 1048576, 0⟩ v7 L v12 TL (.slice a13 ts.length c13) ts (.slice a14 ts.length c14) ts ∧ Below w.heap.size w (w14.alloc (.cells #[v5, v6, v9, v11] 23))) := by
              have h := mem_start SZ.out ⟨A9.out.2.2.2, A9.out.2.2.1, A11.out.2.2.2.1, A11.out.2.2.1, A12.out.2.1.size, A13.out.2.1.size, A14.out.2.1.size⟩ A14.out.2.1 A13.out.2.1 A12.out.2.1 A11.out.2.1 A9.out.2.1 R2.out.1 A7.out A5.out.1 A6.out.1 A9.out.1 A11.out.1 A12.out.1 A13.out.1 A14.out.1 B7.out
              rw [hu0, hl0, hf0]; exact h
            have LB : Aside (∀ i, i < 4 → (l0 i).length ≤ 1048576) := by
              intro i hi
              rw [hl0]
              match i, hi with
              | 0, _ => exact LL.out.1
              | 1, _ => exact LL.out.1
              | 2, _ => exact TT.out.1
              | 3, _ => exact TT.out.1
            rw [hv5.out, hv6.out, hv9.out, hv11.out] at M0 ⊢
            obtain ⟨A, hA⟩ : ∃ A, A = w14.heap.size := ⟨_, rfl⟩
            rw [← hA] at M0
            have AE : Aside (A = w14.heap.size) := hA
            have SB : Aside (w.heap.size ≤ w2.heap.size) := B2.out.1.size
            clear hu0 hl0 hf0 hA hv5 hv6 hv9 hv11 A5 A6 A8 A9 A10 A11 A12 A13 A14 hsm' hsu' hsm2 hsu2
            go_wp2_with fail
            rw [← AE.out]
            go_loopg [25] 4 (fun g0 si wr => ∃ (i : Nat), i ≤ 4 ∧ g0 = 4 - i ∧ si = .int .i64 i ∧ Mem w2.heap.size wr f0 A u0 (Pg l0 (lst1 l0) i) gw u ⟨L, 1048576, 0⟩ v7 L v12 TL (.slice a13 ts.length c13) (ts) (.slice a14 ts.length c14) (ts) ∧ Below w.heap.size w wr)
            case atStart => exact ⟨0, by omega, rfl, rfl, by rw [Pg_zero]; exact M0.out.1, M0.out.2⟩
            case round =>
              obtain ⟨i, hi, hg, rfl, hm, hb⟩ := hrel
              have R3 : Aside (gk = 4 - i ∧ Mem w2.heap.size wr f0 A u0 (Pg l0 (lst1 l0) i) gw u ⟨L, 1048576, 0⟩ v7 L v12 TL (.slice a13 ts.length c13) (ts) (.slice a14 ts.length c14) (ts) ∧ Below w.heap.size w wr) := ⟨hg, hm, hb⟩
              clear hg hm hb
              by_cases hlt : i < 4
              · have hlt' : (i : Int) < 4 := by omega
                obtain ⟨n, hnn⟩ : ∃ n, n = (l0 i).length := ⟨_, rfl⟩
                obtain ⟨ai, ci, hu, hci, hcm⟩ := (R3.out.2.1.o i hlt).1.bytes.len
                rw [Pg_at, ← hnn] at hu hci
                have UI : Aside (u0 i = .slice ai n ci ∧ n = (l0 i).length) := ⟨hu, hnn⟩
                have nb : n ≤ 1048576 := by rw [hnn]; exact LB.out i hlt
                unfold maxLen at hcm
                clear hu hnn
                go_wp2_with fail
                go_loopg [26] n (fun g0 sk wr => ∃ (k : Nat), k ≤ n ∧ g0 = n - k ∧ sk = .int .i64 k ∧ Mem w2.heap.size wr f0 A u0 (upd (Pg l0 (lst1 l0) i) i (List.replicate k (mk1 i) ++ (l0 i).drop k)) gw u ⟨L, 1048576, 0⟩ v7 L v12 TL (.slice a13 ts.length c13) (ts) (.slice a14 ts.length c14) (ts) ∧ Below w.heap.size w wr)
                case atStart =>
                  refine ⟨0, Nat.zero_le _, rfl, rfl, ?_, R3.out.2.2⟩
                  rw [upd_self _ _ _ (by rw [Pg_at]; rfl)]; exact R3.out.2.1
                case round =>
                  obtain ⟨k, hk, hg, rfl, hm, hb⟩ := hrel
                  have R4 : Aside (gk = n - k ∧ Mem w2.heap.size wr f0 A u0 (upd (Pg l0 (lst1 l0) i) i (List.replicate k (mk1 i) ++ (l0 i).drop k)) gw u ⟨L, 1048576, 0⟩ v7 L v12 TL (.slice a13 ts.length c13) (ts) (.slice a14 ts.length c14) (ts) ∧ Below w.heap.size w wr) := ⟨hg, hm, hb⟩
                  clear hg hm hb
                  have O := (R4.out.2.1.o i hlt).1
                  rw [upd_at, UI.out.1] at O
                  obtain ⟨cA, fA⟩ := R4.out.2.1.cellA i hlt
                  rw [UI.out.1] at cA
                  by_cases hkn : k < n
                  · have hkn' : (k : Int) < (n : Int) := by omega
                    have ll : (List.replicate k (mk1 i) ++ (l0 i).drop k).length = n := by rw [rep_len _ _ (by have := UI.out.2; omega)]; exact UI.out.2.symm
                    obtain ⟨gi, hai⟩ : ∃ gi, ai = some (⟨gi, 0, none⟩ : Addr) := by
                      obtain ⟨gi, ci', cur, hv, _⟩ := O.row (by omega)
                      simp only [Value.slice.injEq] at hv
                      exact ⟨gi, hv.1⟩
                    subst hai
                    obtain ⟨c0, f0'⟩ := O.cellAt k (by omega)
                    have OO : Aside (Own w2.heap.size wr (.slice (some ⟨gi, 0, none⟩) n ci) (List.replicate k (mk1 i) ++ (l0 i).drop k) ∧ (List.replicate k (mk1 i) ++ (l0 i).drop k).length = n) := ⟨O, ll⟩
                    clear O ll
                    go_wp2_with fail
                    go_roundg (n - (k + 1))
                    case measure => have := R4.out.1; omega
                    case rel =>
                      refine ⟨k + 1, by omega, rfl, by go_num, ?_⟩
                      have key : ∀ q : Int, q = c8 (mk1 i) → Mem w2.heap.size (wr.setCell ⟨gi, k, none⟩ (.int .u8 q)) f0 A u0 (upd (Pg l0 (lst1 l0) i) i (List.replicate (k + 1) (mk1 i) ++ (l0 i).drop (k + 1))) gw u ⟨L, 1048576, 0⟩ v7 L v12 TL (.slice a13 ts.length c13) (ts) (.slice a14 ts.length c14) (ts) ∧ Below w.heap.size w (wr.setCell ⟨gi, k, none⟩ (.int .u8 q)) := by
                        rintro q rfl
                        have ks : Kept (fun x => some x = (u0 i).ownBlock) wr (wr.setCell ⟨gi, k, none⟩ (.int .u8 (c8 (mk1 i)))) := kept_set wr ⟨gi, k, none⟩ _ (by rw [UI.out.1]; rfl)
                        have h := R4.out.2.1.setU i hlt _ ks (by rw [UI.out.1]; exact OO.out.1.set k (by have := OO.out.2; omega) (mk1 i))
                        rw [upd_upd, rep_set _ _ _ (by have := UI.out.2; omega)] at h
                        refine ⟨h, R4.out.2.2.trans (ks.below R4.out.2.2.size (fun x hx => ?_))⟩
                        rw [UI.out.1] at hx
                        have h1 := (OO.out.1.lt x hx.symm).1
                        have h2 := SB.out
                        omega
                      refine key _ ?_
                      rw [c_mk1 hlt]
                  · have E4 : Aside (Mem w2.heap.size wr f0 A u0 (Pg l0 (lst1 l0) (i + 1)) gw u ⟨L, 1048576, 0⟩ v7 L v12 TL (.slice a13 ts.length c13) (ts) (.slice a14 ts.length c14) (ts) ∧ Below w.heap.size w wr) := by
                      have h := R4.out.2
                      have e : k = (l0 i).length := by have := UI.out.2; omega
                      have e2 := Pg_step l0 (lst1 l0) i
                      unfold lst1 at e2
                      rw [e, rep_end] at h
                      unfold lst1 at h ⊢
                      rw [e2] at h
                      exact h
                    clear O
                    go_wp2_with fail
                    go_roundg (4 - (i + 1))
                    case measure => have := R3.out.1; omega
                    case rel => exact ⟨i + 1, by omega, rfl, by go_num, E4.out.1, E4.out.2⟩
              · obtain rfl : i = 4 := by omega
                clear M0
                go_wp2_with fail
                go_loopg [27] ts.length (fun g0 sk wr => ∃ (k : Nat), k ≤ ts.length ∧ g0 = ts.length - k ∧ sk = .int .i64 k ∧ Mem w2.heap.size wr f0 A u0 (Pg l0 (lst1 l0) 4) gw u ⟨L, 1048576, 0⟩ v7 L v12 TL (.slice a13 ts.length c13) (List.replicate k one3 ++ ts.drop k) (.slice a14 ts.length c14) (ts) ∧ Below w.heap.size w wr)
                case atStart => exact ⟨0, Nat.zero_le _, rfl, rfl, R3.out.2.1, R3.out.2.2⟩
                case round =>
                  obtain ⟨k, hk, hg, rfl, hm, hb⟩ := hrel
                  have R5 : Aside (gk = ts.length - k ∧ Mem w2.heap.size wr f0 A u0 (Pg l0 (lst1 l0) 4) gw u ⟨L, 1048576, 0⟩ v7 L v12 TL (.slice a13 ts.length c13) (List.replicate k one3 ++ ts.drop k) (.slice a14 ts.length c14) (ts) ∧ Below w.heap.size w wr) := ⟨hg, hm, hb⟩
                  clear hg hm hb
                  by_cases hkn : k < ts.length
                  · have hkn' : (k : Int) < (ts.length : Int) := by omega
                    have ll : (List.replicate k one3 ++ ts.drop k).length = ts.length := rep_len _ _ (by omega)
                    have O := R5.out.2.1.x.1
                    obtain ⟨gx, hai⟩ : ∃ gx, a13 = some (⟨gx, 0, none⟩ : Addr) := by
                      obtain ⟨gx, cx', cur, hv, _⟩ := O.row (by omega)
                      simp only [Value.slice.injEq] at hv
                      exact ⟨gx, hv.1⟩
                    subst hai
                    obtain ⟨c0, f0'⟩ := O.cellAt k (by omega)
                    have OO : Aside ((List.replicate k one3 ++ ts.drop k).length = ts.length) := ll
                    clear O ll
                    go_wp2_with fail
                    go_roundg (ts.length - (k + 1))
                    case measure => have := R5.out.1; omega
                    case rel =>
                      have O := R5.out.2.1.x.1
                      have ks : Kept (fun x => some x = (Value.slice (some ⟨gx, 0, none⟩) ts.length c13).ownBlock) wr (wr.setCell ⟨gx, k, none⟩ (.string one3)) := kept_set wr ⟨gx, k, none⟩ _ rfl
                      have h := R5.out.2.1.setX ks (O.set k (by have := OO.out; omega) one3)
                      rw [rep_set _ _ _ hkn] at h
                      refine ⟨k + 1, by omega, rfl, by go_num, h, R5.out.2.2.trans (ks.below R5.out.2.2.size (fun x hx => ?_))⟩
                      have h1 := (O.lt x hx.symm).1
                      have h2 := SB.out
                      omega
                  · have E5 : Aside (Mem w2.heap.size wr f0 A u0 (Pg l0 (lst1 l0) 4) gw u ⟨L, 1048576, 0⟩ v7 L v12 TL (.slice a13 ts.length c13) (List.replicate ts.length one3) (.slice a14 ts.length c14) (ts) ∧ Below w.heap.size w wr) := by
                      have h := R5.out.2
                      rw [show k = ts.length by omega, rep_end] at h
                      exact h
                    clear R3 R5
                    go_wp2_with fail
                    go_loopg [28] 4 (fun g0 si wr => ∃ (i : Nat) (f : Nat → Nat) (u1 : Nat → Value), i ≤ 4 ∧ g0 = 4 - i ∧ si = .int .i64 i ∧ Mem w2.heap.size wr f A u1 (Pg (Pg l0 (lst1 l0) 4) (lst2 l0) i) gw u ⟨L, 1048576, 0⟩ v7 L v12 TL (.slice a13 ts.length c13) (List.replicate ts.length one3) (.slice a14 ts.length c14) (ts) ∧ Below w.heap.size w wr)
                    case atStart => exact ⟨0, f0, u0, by omega, rfl, rfl, by rw [Pg_zero]; exact E5.out.1, E5.out.2⟩
                    case round =>
                      obtain ⟨i, f, u1, hi, hg, rfl, hm, hb⟩ := hrel
                      have R6 : Aside (gk = 4 - i ∧ Mem w2.heap.size wr f A u1 (Pg (Pg l0 (lst1 l0) 4) (lst2 l0) i) gw u ⟨L, 1048576, 0⟩ v7 L v12 TL (.slice a13 ts.length c13) (List.replicate ts.length one3) (.slice a14 ts.length c14) (ts) ∧ Below w.heap.size w wr) := ⟨hg, hm, hb⟩
                      clear hg hm hb
                      by_cases hlt : i < 4
                      · have hlt' : (i : Int) < 4 := by omega
                        go_wp2_with fail
                        go_loopg [29] 64 (fun g0 sk wr => ∃ (k : Nat) (f : Nat → Nat) (u1 : Nat → Value), k ≤ 64 ∧ g0 = 64 - k ∧ sk = .int .i64 k ∧ Mem w2.heap.size wr f A u1 (upd (Pg (Pg l0 (lst1 l0) 4) (lst2 l0) i) i (lst1 l0 i ++ List.replicate k (mk2 i))) gw u ⟨L, 1048576, 0⟩ v7 L v12 TL (.slice a13 ts.length c13) (List.replicate ts.length one3) (.slice a14 ts.length c14) (ts) ∧ Below w.heap.size w wr)
                        case atStart =>
                          refine ⟨0, f, u1, by omega, rfl, rfl, ?_, R6.out.2.2⟩
                          rw [upd_self _ _ _ (by rw [Pg_at, Pg_below _ _ hlt]; simp)]; exact R6.out.2.1
                        case round =>
                          obtain ⟨k, f, u1, hk, hg, rfl, hm, hb⟩ := hrel
                          have R7 : Aside (gk = 64 - k ∧ Mem w2.heap.size wr f A u1 (upd (Pg (Pg l0 (lst1 l0) 4) (lst2 l0) i) i (lst1 l0 i ++ List.replicate k (mk2 i))) gw u ⟨L, 1048576, 0⟩ v7 L v12 TL (.slice a13 ts.length c13) (List.replicate ts.length one3) (.slice a14 ts.length c14) (ts) ∧ Below w.heap.size w wr) := ⟨hg, hm, hb⟩
                          clear hg hm hb
                          by_cases hkn : k < 64
                          · have hkn' : (k : Int) < 64 := by omega
                            have O0 := (R7.out.2.1.o i hlt).1
                            rw [upd_at] at O0
                            obtain ⟨cA, fA⟩ := R7.out.2.1.cellA i hlt
                            obtain ⟨ai, ni, ci, hu⟩ : ∃ a n c, u1 i = .slice a n c := by obtain ⟨a, cap, e, _⟩ := O0.bytes.len; exact ⟨a, _, cap, e⟩
                            rw [hu] at cA O0
                            have UI : Aside (u1 i = .slice ai ni ci) := hu
                            have O : Hid (Own w2.heap.size wr (.slice ai ni ci) (lst1 l0 i ++ List.replicate k (mk2 i))) := O0
                            have S : Hid (w2.heap.size ≤ wr.heap.size) := Nat.le_trans R7.out.2.1.bA (Nat.le_of_lt R7.out.2.1.lt)
                            have Ln : Hid ((lst1 l0 i ++ List.replicate k (mk2 i)).length < 140737488355328) := by
                              have := LB.out i hlt
                              show _ < _
                              rw [List.length_append, List.length_replicate]; unfold lst1; rw [List.length_replicate]; omega
                            obtain ⟨c, hc⟩ : ∃ c, c = mk2 i := ⟨_, rfl⟩
                            have C : Aside (c8 c = 177 + (i : Int) ∧ c = mk2 i) := ⟨by rw [hc]; exact c_mk2 hlt, hc⟩
                            clear hc hu O0
                            go_wp2_with (at_builtin; refine app_byte rfl _ _ rfl rfl O.out S.out _ c ?hn rfl Ln.out ?_)
                            case hn => rw [C.out.1]
                            intro v' w' h1 h2 h3
                            have g2 : wr.grownBy w' (u1 i).ownBlock := by rw [UI.out]; exact h2
                            obtain ⟨kA, kF⟩ := R7.out.2.1.cellA_grown i hlt g2
                            obtain ⟨a2', n2', c2', rfl⟩ : ∃ a n c, v' = .slice a n c := by obtain ⟨a, cap, e, _⟩ := h1.bytes.len; exact ⟨a, _, cap, e⟩
                            have A7' : Aside (Own w2.heap.size w' (.slice a2' n2' c2') (lst1 l0 i ++ (List.replicate k (mk2 i) ++ [c])) ∧ wr.grownBy w' (u1 i).ownBlock ∧ At (u1 i) (.slice a2' n2' c2') wr ∧ Below w2.heap.size wr w') :=
                              ⟨h1, g2, by rw [UI.out]; exact h3, grown_below h2 O.out S.out⟩
                            rw [UI.out] at kA
                            clear h1 h2 h3 g2 O S Ln cA fA
                            go_wp2_with fail
                            go_roundg (64 - (k + 1))
                            case measure => have := R7.out.1; omega
                            case rel =>
                              obtain ⟨h1, h2, h3, h4⟩ := A7'.out
                              have h := R7.out.2.1.appU i hlt _ _ h2 h1 h3
                              rw [upd_upd, C.out.2, ← List.replicate_succ'] at h
                              refine ⟨k + 1, _, _, by omega, rfl, by go_num, h, ?_⟩
                              have ks : Kept (fun x => x = A) w' (w'.setCell ⟨A, i, none⟩ (.slice a2' n2' c2')) := kept_set w' ⟨A, i, none⟩ _ rfl
                              have b1 := R7.out.2.2.trans (h4.mono SB.out)
                              exact b1.trans (ks.below b1.size (fun x hx => by have := R7.out.2.1.bA; have := SB.out; omega))
                          · have E7 : Aside (Mem w2.heap.size wr f A u1 (Pg (Pg l0 (lst1 l0) 4) (lst2 l0) (i + 1)) gw u ⟨L, 1048576, 0⟩ v7 L v12 TL (.slice a13 ts.length c13) (List.replicate ts.length one3) (.slice a14 ts.length c14) (ts) ∧ Below w.heap.size w wr) := by
                              have h := R7.out.2
                              have e2 := Pg_step (Pg l0 (lst1 l0) 4) (lst2 l0) i
                              rw [show k = 64 by omega] at h
                              rw [← e2]
                              exact h
                            go_wp2_with fail
                            go_roundg (4 - (i + 1))
                            case measure => have := R6.out.1; omega
                            case rel => exact ⟨i + 1, _, _, by omega, rfl, by go_num, E7.out.1, E7.out.2⟩
                      · obtain rfl : i = 4 := by omega
                        clear E5
                        go_wp2_with fail
                        go_loopg [20, 22, 30] 64 (fun g0 sx sy sk wr => ∃ (k : Nat) (f : Nat → Nat) (vx vy : Value), k ≤ 64 ∧ g0 = 64 - k ∧ sk = .int .i64 k ∧ vx = sx ∧ vy = sy ∧ Mem w2.heap.size wr f A u1 (Pg (Pg l0 (lst1 l0) 4) (lst2 l0) 4) gw u ⟨L, 1048576, 0⟩ v7 L v12 TL vx (List.replicate ts.length one3 ++ List.replicate k two3) vy (ts ++ List.replicate k three5) ∧ Below w.heap.size w wr)
                        case atStart => exact ⟨0, f, _, _, by omega, rfl, rfl, rfl, rfl, by simpa using R6.out.2.1, R6.out.2.2⟩
                        case round =>
                          obtain ⟨k, f, vx, vy, hk, hg, rfl, rfl, rfl, hm, hb⟩ := hrel
                          have R8 : Aside (gk = 64 - k ∧ Mem w2.heap.size wr f A u1 (Pg (Pg l0 (lst1 l0) 4) (lst2 l0) 4) gw u ⟨L, 1048576, 0⟩ v7 L v12 TL vx (List.replicate ts.length one3 ++ List.replicate k two3) vy (ts ++ List.replicate k three5) ∧ Below w.heap.size w wr) := ⟨hg, hm, hb⟩
                          clear hg hm hb
                          by_cases hkn : k < 64
                          · have hkn' : (k : Int) < 64 := by omega
                            have O : Hid (OwnS w2.heap.size wr vx (List.replicate ts.length one3 ++ List.replicate k two3)) := R8.out.2.1.x.1
                            have S : Hid (w2.heap.size ≤ wr.heap.size) := Nat.le_trans R8.out.2.1.bA (Nat.le_of_lt R8.out.2.1.lt)
                            have Ln : Hid (((List.replicate ts.length one3 ++ List.replicate k two3).length + 1) * 16 ≤ 140737488355328) := by show _ ≤ _; rw [List.length_append, List.length_replicate, List.length_replicate]; omega
                            go_wp2_with (at_builtin; refine app_txt_at rfl _ _ rfl rfl O.out S.out two3 rfl Ln.out ?_)
                            intro vx' w9' h1 h2 h3
                            have bx : Below w2.heap.size wr w9' := (Below.refl _ _).grown h2 S.out (fun k hk => (O.out.lt k hk).1)
                            have M9 : Aside (Mem w2.heap.size w9' (relab wr 7 f) A u1 (Pg (Pg l0 (lst1 l0) 4) (lst2 l0) 4) gw u ⟨L, 1048576, 0⟩ v7 L v12 TL vx' (List.replicate ts.length one3 ++ List.replicate (k + 1) two3) vy (ts ++ List.replicate k three5) ∧ Below w.heap.size w w9' ∧ w2.heap.size ≤ w9'.heap.size) := by
                              have h := R8.out.2.1.appX h2 h1 h3
                              rw [← List.replicate_succ'] at h
                              exact ⟨h, R8.out.2.2.trans (bx.mono SB.out), Nat.le_trans S.out bx.size⟩
                            clear h1 h2 h3 O S Ln bx
                            have O : Hid (OwnS w2.heap.size w9' vy (ts ++ List.replicate k three5)) := M9.out.1.y.1
                            have S : Hid (w2.heap.size ≤ w9'.heap.size) := M9.out.2.2
                            have Ln : Hid (((ts ++ List.replicate k three5).length + 1) * 16 ≤ 140737488355328) := by show _ ≤ _; rw [List.length_append, List.length_replicate]; omega
                            go_wp2_with (at_builtin; refine app_txt_at rfl _ _ rfl rfl O.out S.out three5 rfl Ln.out ?_)
                            intro vy' w10' h1 h2 h3
                            have bx : Below w2.heap.size w9' w10' := (Below.refl _ _).grown h2 S.out (fun k hk => (O.out.lt k hk).1)
                            have M10 : Aside (Mem w2.heap.size w10' (relab w9' 8 (relab wr 7 f)) A u1 (Pg (Pg l0 (lst1 l0) 4) (lst2 l0) 4) gw u ⟨L, 1048576, 0⟩ v7 L v12 TL vx' (List.replicate ts.length one3 ++ List.replicate (k + 1) two3) vy' (ts ++ List.replicate (k + 1) three5) ∧ Below w.heap.size w w10') := by
                              have h := M9.out.1.appY h2 h1 h3
                              rw [← List.replicate_succ'] at h
                              exact ⟨h, M9.out.2.1.trans (bx.mono SB.out)⟩
                            clear h1 h2 h3 O S Ln bx
                            go_wp2_with fail
                            go_roundg (64 - (k + 1))
                            case measure => have := R8.out.1; omega
                            case rel => exact ⟨k + 1, _, vx', vy', by omega, rfl, by go_num, rfl, rfl, M10.out.1, M10.out.2⟩
                          · obtain rfl : k = 64 := by omega
                            clear R6
                            go_wp2_with fail
                            obtain ⟨ay, cy, hvy, hyc, hym⟩ := R8.out.2.1.y.1.len
                            obtain ⟨ax, cx, hvx, hxc, hxm⟩ := R8.out.2.1.x.1.len
                            subst hvy
                            subst hvx
                            unfold maxLen at hym hxm
                            obtain ⟨ny, hny⟩ : ∃ ny, ny = (ts ++ List.replicate 64 three5).length := ⟨_, rfl⟩
                            obtain ⟨nx, hnx⟩ : ∃ nx, nx = (List.replicate ts.length one3 ++ List.replicate 64 two3).length := ⟨_, rfl⟩
                            have ly : ts.length < ny := by rw [hny, List.length_append, List.length_replicate]; omega
                            have lx : ts.length < nx := by rw [hnx, List.length_append, List.length_replicate, List.length_replicate]; omega
                            rw [← hny] at R8 hyc ⊢
                            rw [← hnx] at R8 hxc ⊢
                            clear hny hnx
                            have M8 : Aside (Mem w2.heap.size wr f A u1 (Pg (Pg l0 (lst1 l0) 4) (lst2 l0) 4) gw u ⟨L, 1048576, 0⟩ v7 L v12 TL (.slice ax nx cx) (List.replicate ts.length one3 ++ List.replicate 64 two3) (.slice ay ny cy) (ts ++ List.replicate 64 three5) ∧ Below w.heap.size w wr) := R8.out.2
                            clear R8
                            go_loopg [31] 4 (fun g0 si w' => ∃ (i : Nat), i ≤ 4 ∧ g0 = 4 - i ∧ si = .int .i64 i ∧ w' = wr)
                            case atStart => exact ⟨0, by omega, rfl, rfl, rfl⟩
                            case round =>
                              obtain ⟨i, hi, hg, rfl, rfl⟩ := hrel
                              have R9 : Aside (gk = 4 - i) := hg
                              clear hg
                              by_cases hlt : i < 4
                              · have hlt' : (i : Int) < 4 := by omega
                                have O := (M8.out.1.o i hlt).1
                                rw [Pg_below _ _ hlt] at O
                                obtain ⟨N, hN⟩ : ∃ N, N = (lst2 l0 i).length := ⟨_, rfl⟩
                                obtain ⟨M, hM⟩ : ∃ M, M = (l0 i).length := ⟨_, rfl⟩
                                have hNM : N = M + 64 := by rw [hN, hM]; unfold lst2 lst1; rw [List.length_append, List.length_replicate, List.length_replicate]
                                obtain ⟨ai, ci, hu, hci, hcm⟩ := O.bytes.len
                                rw [← hN] at hu hci
                                obtain ⟨cA, fA⟩ := M8.out.1.cellA i hlt
                                rw [hu] at cA O
                                have mb : M ≤ 1048576 := by rw [hM]; exact LB.out i hlt
                                have nb : N ≤ 1048640 := by omega
                                have OO : Aside (Own w2.heap.size wr (.slice ai N ci) (lst2 l0 i) ∧ N = (lst2 l0 i).length ∧ N = M + 64 ∧ lst2 l0 i = List.replicate M (mk1 i) ++ List.replicate 64 (mk2 i)) := ⟨O, hN, hNM, by rw [hM]; rfl⟩
                                unfold maxLen at hcm
                                clear O hN hM hNM hu
                                go_wp2_with fail
                                go_loopg [32] N (fun g0 sk w' => ∃ (k : Nat), k ≤ N ∧ g0 = N - k ∧ sk = .int .i64 k ∧ w' = wr)
                                case atStart => exact ⟨0, by omega, rfl, rfl, rfl⟩
                                case round =>
                                  obtain ⟨k, hk, hg, rfl, rfl⟩ := hrel
                                  have R10 : Aside (gk = N - k) := hg
                                  clear hg
                                  by_cases hkn : k < N
                                  · have hkn' : (k : Int) < (N : Int) := by omega
                                    obtain ⟨gi, hai⟩ : ∃ gi, ai = some (⟨gi, 0, none⟩ : Addr) := by
                                      obtain ⟨gi, ci', cur, hv, _⟩ := OO.out.1.row (by have := OO.out.2.1; omega)
                                      simp only [Value.slice.injEq] at hv
                                      exact ⟨gi, hv.1⟩
                                    subst hai
                                    obtain ⟨c0, f0'⟩ := OO.out.1.cellAt k (by have := OO.out.2.1; omega)
                                    rw [OO.out.2.2.2] at c0
                                    by_cases hkm : k < M
                                    · rw [rep_getD1 _ _ _ _ _ hkm, c_mk1 hlt] at c0
                                      go_wp2_with fail
                                      go_roundg (N - (k + 1))
                                      case measure => have := R10.out; omega
                                      case rel => exact ⟨k + 1, by omega, rfl, by go_num, rfl⟩
                                    · rw [rep_getD2 _ _ _ _ _ hkm (by have := OO.out.2.2.1; omega), c_mk2 hlt] at c0
                                      have ne1 : ((177 : Int) + (i : Int) == 145 + (i : Int)) = false := by rw [beq_eq_false_iff_ne]; omega
                                      have lt1 : decide ((k : Int) < (N : Int) - 64) = false := by rw [decide_eq_false_iff_not]; have := OO.out.2.2.1; omega
                                      go_wp2_with fail
                                      go_roundg (N - (k + 1))
                                      case measure => have := R10.out; omega
                                      case rel => exact ⟨k + 1, by omega, rfl, by go_num, rfl⟩
                                  · go_wp2_with fail
                                    go_roundg (4 - (i + 1))
                                    case measure => have := R9.out; omega
                                    case rel => exact ⟨i + 1, by omega, rfl, by go_num, rfl⟩
                              · go_wp2_with fail
                                refine (wOut_any _ _ _ _ wr M8.out.1.wr).mono ?_
                                rintro e w21 ⟨z, rfl, ho, hb⟩
                                have A21 : Aside (Own wr.heap.size w21 z L ∧ Mem w2.heap.size w21 f A u1 (Pg (Pg l0 (lst1 l0) 4) (lst2 l0) 4) gw u ⟨L, 1048576, 0⟩ v7 L v12 TL (.slice ax nx cx) (List.replicate ts.length one3 ++ List.replicate 64 two3) (.slice ay ny cy) (ts ++ List.replicate 64 three5) ∧ Below w.heap.size w w21) := ⟨ho, M8.out.1.below hb, M8.out.2.trans (hb.mono M8.out.2.size)⟩
                                clear ho hb M8
                                go_wp2_with fail
                                refine (untexts_any v12 TL w21 A21.out.2.1.ll.1.bytes).mono ?_
                                rintro e w22 ⟨v22, rfl, ho, hb⟩
                                rw [TT.out.2.2.1]
                                rw [TT.out.2.2.2] at ho
                                have A22 : Aside (OwnS w21.heap.size w22 v22 ts ∧ Mem w2.heap.size w22 f A u1 (Pg (Pg l0 (lst1 l0) 4) (lst2 l0) 4) gw u ⟨L, 1048576, 0⟩ v7 L v12 TL (.slice ax nx cx) (List.replicate ts.length one3 ++ List.replicate 64 two3) (.slice ay ny cy) (ts ++ List.replicate 64 three5) ∧ Below w.heap.size w w22 ∧ Own wr.heap.size w22 z L) := ⟨ho, A21.out.2.1.below hb, A21.out.2.2.trans (hb.mono A21.out.2.2.size), A21.out.1.below hb⟩
                                clear ho hb A21
                                go_wp2_with fail
                                refine (same_any _ _ _ _ w22 A22.out.2.2.2.bytes A22.out.2.1.k.1.bytes).mono ?_
                                rintro e w22 ⟨rfl, rfl⟩
                                rw [decide_eq_true rfl]
                                go_wp2_with fail
                                refine (sameTexts_yes _ _ ts w22 A22.out.1.strs (Vv.out.2.2.1.below A22.out.2.2.1)).mono ?_
                                rintro e w23 ⟨rfl, hb⟩
                                have A23 : Aside (Mem w2.heap.size w23 f A u1 (Pg (Pg l0 (lst1 l0) 4) (lst2 l0) 4) gw u ⟨L, 1048576, 0⟩ v7 L v12 TL (.slice ax nx cx) (List.replicate ts.length one3 ++ List.replicate 64 two3) (.slice ay ny cy) (ts ++ List.replicate 64 three5) ∧ Below w.heap.size w w23) := ⟨A22.out.2.1.below hb, A22.out.2.2.1.trans (hb.mono A22.out.2.2.1.size)⟩
                                clear hb A22
                                go_wp2_with fail
                                refine (sameTexts_yes _ _ ts w23 A23.out.1.y.1.strs.take' (Vv.out.2.2.1.below A23.out.2)).mono ?_
                                rintro e w24 ⟨rfl, hb⟩
                                have M24 := A23.out.1.below hb
                                have B24 : Aside (Below w.heap.size w w24) := A23.out.2.trans (hb.mono A23.out.2.size)
                                obtain ⟨gx, hax⟩ : ∃ gx, ax = some (⟨gx, 0, none⟩ : Addr) := by
                                  obtain ⟨gx, ci', cur, hv, _⟩ := M24.x.1.row (by rw [List.length_append, List.length_replicate, List.length_replicate]; omega)
                                  simp only [Value.slice.injEq] at hv
                                  exact ⟨gx, hv.1⟩
                                obtain ⟨gy, hay⟩ : ∃ gy, ay = some (⟨gy, 0, none⟩ : Addr) := by
                                  obtain ⟨gy, ci', cur, hv, _⟩ := M24.y.1.row (by rw [List.length_append, List.length_replicate]; omega)
                                  simp only [Value.slice.injEq] at hv
                                  exact ⟨gy, hv.1⟩
                                subst hax
                                subst hay
                                have cx1 := (M24.x.1.cellAt ts.length (by rw [List.length_append, List.length_replicate, List.length_replicate]; omega)).1
                                have cy1 := (M24.y.1.cellAt ts.length (by rw [List.length_append, List.length_replicate]; omega)).1
                                rw [rep_getD2 _ _ _ _ _ (Nat.lt_irrefl _) (by omega)] at cx1
                                have ey : (ts ++ List.replicate 64 three5).getD ts.length ⟨#[]⟩ = three5 := by simp [List.getD]
                                rw [ey] at cy1
                                unfold two3 at cx1
                                unfold three5 at cy1
                                clear ey M24 hb A23
                                go_wp2_with fail
                                go_ret
                                exact ⟨rfl, B24.out⟩
          · have E2 : Aside True := trivial
            by_cases hsm : ts.length ≤ 4096
            · have hqe := RQ.out hsm
              subst hqe
              have hsm' : decide ((4096 : Int) < (ts.length : Int)) = false := by rw [decide_eq_false_iff_not]; omega
              have hsu' : (1048576 : Int) < (tsum ts : Int) := by have : ¬ tsum ts ≤ 1048576 := fun h => hgo ⟨hsm, h⟩; omega
              clear hgo
              go_wp2_with fail
              refine (same_any _ _ _ _ wr A7.out.2.2.2.1.bytes A7.out.2.2.2.2.bytes).mono ?_
              rintro e wr ⟨rfl, rfl⟩
              rw [decide_eq_true rfl]
              go_wp2_with fail
              go_ret
              exact ⟨rfl, B7.out⟩
            · have hsm' : (4096 : Int) < (ts.length : Int) := by omega
              clear hgo
              go_wp2_with fail
              refine (same_any _ _ _ _ wr A7.out.2.2.2.1.bytes A7.out.2.2.2.2.bytes).mono ?_
              rintro e wr ⟨rfl, rfl⟩
              rw [decide_eq_true rfl]
              go_wp2_with fail
              go_ret
              exact ⟨rfl, B7.out⟩
end Go.Proofs.Ytmabmmmiljkeeaa
