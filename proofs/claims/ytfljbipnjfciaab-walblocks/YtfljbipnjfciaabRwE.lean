/-
  The document's Unblock.
-/
import Derived.Test.YtfljbipnjfciaabRwM
import Derived.Test.YtfljbipnjfciaabWaF
namespace Go.Proofs.Ytfljbipnjfciaab
open Go.RowKit Go.Maps
theorem wrap_wrap (x : Int) : IntKind.i64.wrap (IntKind.i64.wrap x) = IntKind.i64.wrap x := by
  rw [IntKind.wrap_i64 x, IntKind.wrap_i64]
  omega
theorem sub_eq (b : List UInt8) (a n : Nat) : subB b a n = sub b a n := rfl
set_option maxHeartbeats 4000000 in
set_option maxRecDepth 100000 in
theorem runblock_any (v : Value) (b : List UInt8) (w : World) (hv : Bytes w v b) (hl : b.length = 512) : Calls Try.prog 11 #[v] w fun e w' => ∃ vp, e = .returned (.tuple #[.agg (unR b).1.arr, vp, .int .i64 (unR b).2.2]) ∧ Own w.heap.size w' vp (unR b).2.1 ∧ Below w.heap.size w w' := by
  obtain ⟨RR, hRR⟩ : ∃ RR, RR = unR b := ⟨_, rfl⟩
  rw [← hRR]
  have HR := Lib.hid hRR
  clear hRR
  have V := Lib.hid hv
  obtain ⟨a, cap, rfl, hlc, hcm, hn, hc⟩ := hv
  obtain ⟨bb, off, rfl, _⟩ := hc 0 (by omega)
  unfold maxLen at hcm
  rw [hl] at hlc V ⊢
  have HL := Lib.hid hl
  obtain ⟨N0, hN0⟩ : ∃ N : Nat, N = leN (sub b 8 8) := ⟨_, rfl⟩
  obtain ⟨N1, hN1⟩ : ∃ N : Nat, N = leN (sub b 16 8) := ⟨_, rfl⟩
  obtain ⟨N2, hN2⟩ : ∃ N : Nat, N = leN (sub b 2 2) := ⟨_, rfl⟩
  obtain ⟨N3, hN3⟩ : ∃ N : Nat, N = leN (sub b 4 2) := ⟨_, rfl⟩
  obtain ⟨N4, hN4⟩ : ∃ N : Nat, N = leN (sub b 24 4) := ⟨_, rfl⟩
  obtain ⟨E0, hE0⟩ : ∃ E, E = IntKind.i64.wrap (N0 : Int) := ⟨_, rfl⟩
  obtain ⟨E1, hE1⟩ : ∃ E, E = IntKind.i64.wrap (N1 : Int) := ⟨_, rfl⟩
  obtain ⟨E2, hE2⟩ : ∃ E, E = IntKind.i64.wrap (N2 : Int) := ⟨_, rfl⟩
  obtain ⟨E3, hE3⟩ : ∃ E, E = IntKind.i64.wrap (N3 : Int) := ⟨_, rfl⟩
  obtain ⟨E4, hE4⟩ : ∃ E, E = IntKind.i64.wrap (N4 : Int) := ⟨_, rfl⟩
  have HG : Hid (unG b = ⟨E0, E1, E2, E3, E4⟩) := Lib.hid (by unfold unG; rw [hE0, hE1, hE2, hE3, hE4, hN0, hN1, hN2, hN3, hN4])
  have GG : Hid (∀ (o n : Nat) (E : Int), o + n ≤ 512 → E = IntKind.i64.wrap (leN (sub b o n) : Int) → ∀ W, Below w.heap.size w W → Calls Try.prog 38 #[.slice (some ⟨bb, off, none⟩) 512 cap, .int .i64 (o : Int), .int .i64 (n : Int)] W fun e w' => e = .returned (.int .i64 E) ∧ w' = W) := Lib.hid (fun o n E h hE W hb => by
    have q := rgot_any _ b o n W (V.out.below hb) HL.out h
    rw [sub_eq, ← hE] at q
    exact q)
  have D0 := Lib.hid (GG.out 8 8 E0 (by decide) (by rw [hE0, hN0]))
  have D1 := Lib.hid (GG.out 16 8 E1 (by decide) (by rw [hE1, hN1]))
  have D2 := Lib.hid (GG.out 2 2 E2 (by decide) (by rw [hE2, hN2]))
  have D3 := Lib.hid (GG.out 4 2 E3 (by decide) (by rw [hE3, hN3]))
  have D4 := Lib.hid (GG.out 24 4 E4 (by decide) (by rw [hE4, hN4]))
  have w2' : IntKind.i64.wrap E2 = E2 := by rw [hE2]; exact wrap_wrap _
  have w3' : IntKind.i64.wrap E3 = E3 := by rw [hE3]; exact wrap_wrap _
  have w4' : IntKind.i64.wrap E4 = E4 := by rw [hE4]; exact wrap_wrap _
  obtain ⟨g, hg⟩ : ∃ g : Grp, g = ⟨E0, E1, E2, E3, E4⟩ := ⟨_, rfl⟩
  have HG' : Hid (unG b = g) := Lib.hid (by rw [hg]; exact HG.out)
  have GA : Hid (g.arr = #[.int .i64 E0, .int .i64 E1, .int .i64 E2, .int .i64 E3, .int .i64 E4]) := Lib.hid (by rw [hg]; rfl)
  have VA : Hid (∀ W, Calls Try.prog 31 #[.agg g.arr] W fun e w' => e = .returned (.bool (valG g)) ∧ Below W.heap.size W w') := Lib.hid (fun W => rright_any g W)
  have SH : Hid (Val g → ∀ W, Calls Try.prog 32 #[.agg g.arr] W fun e w' => e = .returned (.int .i64 (shG g)) ∧ Below W.heap.size W w') := Lib.hid (fun h W => rshare_any g h W)
  obtain ⟨U0, hU0⟩ : ∃ U0, U0 = w.alloc (.cells #[.int .i64 0, .int .i64 0, .int .i64 0, .int .i64 0, .int .i64 0] 23) := ⟨_, rfl⟩
  obtain ⟨U, hU⟩ : ∃ U, U = U0.alloc (.cells #[.int .i64 E0, .int .i64 E1, .int .i64 E2, .int .i64 E3, .int .i64 E4] 23) := ⟨_, rfl⟩
  have BU : Hid (Below w.heap.size w U0) := Lib.hid (by rw [hU0]; exact (Below.refl _ _).alloc (Nat.le_refl _) _)
  have UN : Hid (Un w U zeroG g ∧ U.heap.size = w.heap.size + 2) := Lib.hid (by
    rw [hU, hU0]
    have h1 : Below w.heap.size w (w.alloc (.cells #[.int .i64 0, .int .i64 0, .int .i64 0, .int .i64 0, .int .i64 0] 23)) := (Below.refl _ _).alloc (Nat.le_refl _) _
    have h2 := h1.alloc h1.size (.cells #[.int .i64 E0, .int .i64 E1, .int .i64 E2, .int .i64 E3, .int .i64 E4] 23)
    refine ⟨⟨?_, ?_, h2⟩, by simp⟩
    · rw [Below.heap_alloc _ _ _ (by simp), heap_alloc_new]
      rfl
    · rw [heap_alloc2_new, GA.out])
  have s0 : U0.heap.size = w.heap.size + 1 := by rw [hU0]; simp
  have hU0' := hU0.symm
  have hU' := hU.symm
  clear hg hl hn hc hE0 hE1 hE2 hE3 hE4 hN0 hN1 hN2 hN3 hN4 hU0 hU HG GG
  go_enter Try.func11, Try.ntmps11
  go_wp2_with fail
  refine (D0.out _ BU.out).mono ?_
  rintro _ q ⟨rfl, e1⟩
  obtain rfl := e1.symm
  go_wp2_with fail
  refine (D1.out _ BU.out).mono ?_
  rintro _ q ⟨rfl, e1⟩
  obtain rfl := e1.symm
  go_wp2_with fail
  refine (D2.out _ BU.out).mono ?_
  rintro _ q ⟨rfl, e1⟩
  obtain rfl := e1.symm
  go_wp2_with fail
  refine (D3.out _ BU.out).mono ?_
  rintro _ q ⟨rfl, e1⟩
  obtain rfl := e1.symm
  go_wp2_with fail
  refine (D4.out _ BU.out).mono ?_
  rintro _ q ⟨rfl, e1⟩
  obtain rfl := e1.symm
  clear D0 D1 D2 D3 D4
  go_wp2_with (refine wpList_load_row rfl 23 (.tmp 5) rfl (w.heap.size + 1) rfl 23 g.arr (0, 0) _ UN.out.1.c Try.underlying23 rfl size_group ?_)
  refine (VA.out U).mono ?_
  rintro _ w2 ⟨rfl, hb2⟩
  have U2 := Lib.hid (UN.out.1.below hb2)
  have S2 : Hid (w.heap.size + 2 ≤ w2.heap.size) := Lib.hid (by rw [← UN.out.2]; exact hb2.size)
  clear hb2 UN VA hU' hU0' s0 BU w2' w3' w4'
  cases hvv : valG g with
  | false =>
    have HE : Hid (RR = (zeroG, [], 2)) := Lib.hid (by rw [HR.out]; unfold unR; rw [HG'.out, hvv, if_neg (by simp)])
    go_wp2_with (refine wpList_store_row rfl 23 (.tmp 2) (.tmp 30) rfl w.heap.size zeroG.arr rfl rfl 23 zeroG.arr U2.out.r size_group rfl (arr_one _) ?_)
    have U3 : Un w (w2.setRow w.heap.size zeroG.arr) zeroG g := ⟨setRow_heap _ _ _ _ _ _ U2.out.r, by rw [setRow_other _ _ _ _ (by omega)]; exact U2.out.c, below_setRow U2.out.bl (Nat.le_refl _) _⟩
    rw [HE.out]
    refine bodyPost_ret (results_cell2 rfl _ _ ⟨w.heap.size, 0, none⟩ (.agg zeroG.arr) rfl (load_group _ _ zeroG U3.r)) rfl ⟨_, rfl, World.ownsRow_nil _ _ _ _, U3.bl⟩
  | true =>
    have VG := Lib.hid ((val_iff g).1 hvv)
    obtain ⟨m, hm⟩ : ∃ m : Nat, shG g = (m : Int) := ⟨(shG g).toNat, by have := VG.out.share; omega⟩
    have hm1 : 1 ≤ m := by have := VG.out.share; omega
    have hm2 : m ≤ 464 := by have := VG.out.share; omega
    have SH' := Lib.hid (SH.out VG.out)
    rw [hm] at SH'
    have PL : Hid (unP b = sub b 32 m ∧ (sub b 32 m).length = m ∧ shG g = (m : Int)) := Lib.hid (by
      refine ⟨?_, ?_, hm⟩
      · unfold unP; rw [HG'.out, hm, Int.toNat_natCast]
      · unfold sub; rw [List.length_take, List.length_drop, HL.out]; omega)
    have HC : Hid (∀ W, Below w.heap.size w W → ∀ k, k < 512 → W.cell? ⟨bb, off + k, none⟩ = some (.int .u8 (c8 (b.getD k 0)))) := Lib.hid (fun W hb k hk => by
      obtain ⟨a', c', h1, _, _, _, h2⟩ := V.out.below hb
      obtain ⟨b', off', h3, h4⟩ := h2 k (by rw [HL.out]; exact hk)
      injection h1 with q1 q2 q3
      rw [h3] at q1
      injection q1 with q1
      injection q1 with q1 q4
      rw [q1, q4]
      exact h4)
    clear SH hm hvv
    go_wp2_with fail
    go_loopg [7, 8] m (fun gg sv si wr => ∃ (k : Nat) (v7 : Value), k ≤ m ∧ gg = m - k ∧ si = .int .i64 k ∧ v7 = sv ∧ Own (w.heap.size + 2) wr v7 (sub b 32 k) ∧ Un w wr zeroG g ∧ w.heap.size + 2 ≤ wr.heap.size)
    case atStart => exact ⟨0, _, Nat.zero_le _, rfl, rfl, rfl, World.ownsRow_nil _ _ _ _, U2.out, S2.out⟩
    case round =>
      obtain ⟨k, sv, hk, hgk, rfl, hsv, ho, hun, hsz⟩ := hrel
      subst hsv
      have O := Lib.hid ho
      have UU := Lib.hid hun
      have SZ := Lib.hid hsz
      have G := Lib.hid hgk
      clear ho hun hsz hgk
      go_wp2_with (refine wpList_load_row rfl 23 (.tmp 5) rfl (w.heap.size + 1) rfl 23 g.arr (0, 0) _ UU.out.c Try.underlying23 rfl size_group ?_)
      refine (SH'.out wr).mono ?_
      rintro _ w3 ⟨rfl, hb3⟩
      have U3 := Lib.hid (UU.out.below hb3)
      have O3 := Lib.hid (O.out.below hb3)
      have S3 : Hid (w.heap.size + 2 ≤ w3.heap.size) := Lib.hid (Nat.le_trans SZ.out hb3.size)
      clear hb3 O UU SZ
      by_cases hlt : k < m
      · have hlt' : (k : Int) < (m : Int) := by omega
        obtain ⟨x, hx⟩ : ∃ x, x = b.getD (32 + k) 0 := ⟨_, rfl⟩
        have T : Hid (sub b 32 (k + 1) = sub b 32 k ++ [x]) := Lib.hid (by
          unfold sub
          rw [hx, List.take_succ_eq_append_getElem (by rw [List.length_drop, HL.out]; omega), List.getElem_drop, List.getD_eq_getElem?_getD, List.getElem?_eq_getElem (by rw [HL.out]; omega), Option.getD_some])
        have L : Hid ((sub b 32 k).length < 140737488355328) := Lib.hid (by unfold sub; rw [List.length_take]; omega)
        obtain ⟨mm, hmm⟩ : ∃ mm, mm = 32 + k := ⟨_, rfl⟩
        have r0 := HC.out w3 U3.out.bl mm (by omega)
        rw [hmm, ← hx, ← hmm] at r0
        have em : (32 : Int) + (k : Int) = (mm : Int) := by omega
        have hm5 : (mm : Int) < 512 := by omega
        obtain ⟨n8, h8⟩ : ∃ n8, n8 = c8 x := ⟨_, rfl⟩
        rw [← h8] at r0
        have E8 := Lib.hid h8
        clear hx h8 hmm
        go_wp2_with (at_builtin; refine app_byte rfl _ _ rfl rfl O3.out S3.out _ x E8.out rfl L.out ?_)
        intro v' W' o1 o2 _
        have A : Hid (Own (w.heap.size + 2) W' v' (sub b 32 (k + 1)) ∧ Un w W' zeroG g ∧ w.heap.size + 2 ≤ W'.heap.size) := Lib.hid (by
          have gb := grown_below o2 O3.out S3.out
          refine ⟨by rw [T.out]; exact o1, ⟨?_, ?_, U3.out.bl.trans (gb.mono (by omega))⟩, Nat.le_trans S3.out gb.size⟩
          · rw [gb.block _ (by omega)]; exact U3.out.r
          · rw [gb.block _ (by omega)]; exact U3.out.c)
        clear o1 o2
        go_wp2_with fail
        go_roundg (m - (k + 1))
        case measure => have := G.out; omega
        case rel => exact ⟨k + 1, _, by omega, rfl, by go_num, rfl, A.out⟩
      · have hge : ¬ (k : Int) < (m : Int) := by omega
        obtain rfl : k = m := by omega
        obtain ⟨pp, hpp⟩ : ∃ pp, pp = sub b 32 k := ⟨_, rfl⟩
        have O4 : Hid (Own (w.heap.size + 2) w3 sv pp) := Lib.hid (by rw [hpp]; exact O3.out)
        have PL' : Hid (unP b = pp ∧ (pp.length : Int) = shG g) := Lib.hid (by rw [hpp]; exact ⟨PL.out.1, by rw [PL.out.2.1, PL.out.2.2]⟩)
        have LY := Lib.hid (rblk_ok g VG.out sv pp PL'.out.2 w3 O4.out.bytes)
        clear hpp O3 PL SH' HC
        go_wp2_with (refine wpList_load_row rfl 23 (.tmp 5) rfl (w.heap.size + 1) rfl 23 g.arr (0, 0) _ U3.out.c Try.underlying23 rfl size_group ?_)
        refine LY.out.mono ?_
        rintro _ w5 ⟨gb, rfl, ho5, hb5⟩
        have U5 := Lib.hid (U3.out.below hb5)
        have O5 : Hid (Own (w.heap.size + 2) w5 sv pp) := Lib.hid (O4.out.below hb5)
        have h1 := convT ho5.bytes
        have h2 := convT (V.out.below U5.out.bl)
        obtain ⟨t1, ht1⟩ : ∃ t1, t1 = txt (layB g pp) := ⟨_, rfl⟩
        obtain ⟨t2, ht2⟩ : ∃ t2, t2 = txt b := ⟨_, rfl⟩
        rw [← ht1] at h1
        rw [← ht2] at h2
        by_cases hle : layB g pp = b
        · have f1 : (t1.toList == t2.toList) = true := by rw [ht1, ht2, txt_beq]; exact decide_eq_true hle
          have f2 : (t1.toList != t2.toList) = false := by unfold bne; rw [f1]; rfl
          have HE : Hid (RR = (g, pp, 0)) := Lib.hid (by rw [HR.out]; unfold unR; rw [HG'.out, PL'.out.1, (val_iff g).2 VG.out, if_pos ⟨rfl, hle⟩])
          clear ho5 hb5 LY U3 O4 hle ht1 ht2
          go_wp2_with first | (refine wpList_load_row rfl 23 (.tmp 5) rfl (w.heap.size + 1) rfl 23 g.arr (0, 0) _ U5.out.c Try.underlying23 rfl size_group ?_) | (refine wpList_store_row rfl 23 (.tmp 2) (.tmp 61) rfl w.heap.size g.arr rfl rfl 23 zeroG.arr U5.out.r size_group rfl (arr_one _) ?_)
          rw [HE.out]
          have K6 := kept_setRow w5 w.heap.size g.arr
          have hr := setRow_heap w5 w.heap.size zeroG.arr g.arr _ _ U5.out.r
          refine bodyPost_ret (results_cell2 rfl _ _ ⟨w.heap.size, 0, none⟩ (.agg g.arr) rfl (load_group _ _ g hr)) rfl ⟨_, rfl, ?_, below_setRow U5.out.bl (Nat.le_refl _) _⟩
          exact ((O5.out.kept K6 (fun k hk e => by have := (O5.out.lt k hk).1; omega)).mono (by omega))
        · have f1 : (t1.toList == t2.toList) = false := by rw [ht1, ht2, txt_beq]; exact decide_eq_false hle
          have f2 : (t1.toList != t2.toList) = true := by unfold bne; rw [f1]; rfl
          have HE : Hid (RR = (zeroG, [], 2)) := Lib.hid (by rw [HR.out]; unfold unR; rw [HG'.out, PL'.out.1, if_neg (fun h => hle h.2)])
          clear ho5 hb5 LY U3 O4 hle ht1 ht2
          go_wp2_with (refine wpList_store_row rfl 23 (.tmp 2) (.tmp 60) rfl w.heap.size zeroG.arr rfl rfl 23 zeroG.arr U5.out.r size_group rfl (arr_one _) ?_)
          have hr := setRow_heap w5 w.heap.size zeroG.arr zeroG.arr _ _ U5.out.r
          rw [HE.out]
          exact bodyPost_ret (results_cell2 rfl _ _ ⟨w.heap.size, 0, none⟩ (.agg zeroG.arr) rfl (load_group _ _ zeroG hr)) rfl ⟨_, rfl, World.ownsRow_nil _ _ _ _, below_setRow U5.out.bl (Nat.le_refl _) _⟩
end Go.Proofs.Ytfljbipnjfciaab
