/-
  Unblock of 512 bytes.
-/
import Derived.Test.YtfljbipnjfciaabWaE
namespace Go.Proofs.Ytfljbipnjfciaab
open Go.RowKit Go.Maps
structure Un (w W : World) (z g : Grp) : Prop where
  r : W.heap[w.heap.size]? = some (.cells z.arr 23 (0, 0))
  c : W.heap[w.heap.size + 1]? = some (.cells g.arr 23 (0, 0))
  bl : Below w.heap.size w W
theorem Un.below {w W W' : World} {z g : Grp} (h : Un w W z g) (hb : Below W.heap.size W W') : Un w W' z g :=
  ⟨by rw [hb.block _ (lt_of_heap h.r)]; exact h.r, by rw [hb.block _ (lt_of_heap h.c)]; exact h.c, h.bl.trans (hb.mono h.bl.size)⟩
theorem arr_one (g : Grp) : g.arr.all (·.oneCell') = true := by simp [Grp.arr, Value.oneCell']
theorem arr_size (g : Grp) : g.arr.size = 5 := rfl
theorem get_sub {w W : World} {b : List UInt8} {bb off cap : Nat} (hv : Bytes w (.slice (some ⟨bb, off, none⟩) 512 cap) b) (hl : b.length = 512) (a n : Nat) (hn : a + n ≤ 512) (h8 : n ≤ 8) (hb : Below w.heap.size w W) :
    Calls Try.prog 35 #[.slice (some ⟨bb, off + a, none⟩) n (cap - a)] W fun e w' => e = .returned (.int .u64 (leN (sub b a n) : Int)) ∧ w' = W := by
  have hb' : Bytes W (.slice (some ⟨bb, off, none⟩) b.length cap) b := by rw [hl]; exact hv.below hb
  have hd := hb'.drop a (by rw [hl]; omega)
  rw [← List.length_drop] at hd
  have ht := hd.take n (by rw [List.length_drop, hl]; omega)
  simp only [Option.map_some, add_plain] at ht
  exact get_any _ _ W ht (by show ((b.drop a).take n).length ≤ 8; rw [List.length_take]; omega)
/-- Of these bytes get tells N. -/
def Got (bb off cap : Nat) (b : List UInt8) (v : Value) (N : Nat) : Prop := ∃ a n, a + n ≤ 512 ∧ n ≤ 8 ∧ v = .slice (some ⟨bb, off + a, none⟩) n (cap - a) ∧ N = leN (sub b a n)
theorem got_any {w W : World} {b : List UInt8} {bb off cap : Nat} (hv : Bytes w (.slice (some ⟨bb, off, none⟩) 512 cap) b) (hl : b.length = 512) (v : Value) (N : Nat) (hb : Below w.heap.size w W) (h : Got bb off cap b v N) :
    Calls Try.prog 35 #[v] W fun e w' => e = .returned (.int .u64 (N : Int)) ∧ w' = W := by
  obtain ⟨a, n, h1, h2, rfl, rfl⟩ := h
  exact get_sub hv hl a n h1 h2 hb
set_option maxHeartbeats 4000000 in
set_option maxRecDepth 100000 in
theorem unblock_any (v : Value) (b : List UInt8) (w : World) (hv : Bytes w v b) (hl : b.length = 512) : Calls Try.prog 10 #[v] w fun e w' => ∃ vp, e = .returned (.tuple #[.agg (unR b).1.arr, vp, .int .i64 (unR b).2.2]) ∧ Own w.heap.size w' vp (unR b).2.1 ∧ Below w.heap.size w w' := by
  obtain ⟨RR, hRR⟩ : ∃ RR, RR = unR b := ⟨_, rfl⟩
  rw [← hRR]
  have HR := Lib.hid hRR
  clear hRR
  have V := Lib.hid hv
  obtain ⟨a, cap, rfl, hlc, hcm, hn, hc⟩ := hv
  obtain ⟨bb, off, rfl, _⟩ := hc 0 (by omega)
  unfold maxLen at hcm
  rw [hl] at hlc V ⊢
  have HL := Lib.hid hl
  obtain ⟨N0, hN0⟩ : ∃ N : Nat, N = leN (sub b 8 8) := ⟨_, rfl⟩
  obtain ⟨N1, hN1⟩ : ∃ N : Nat, N = leN (sub b 16 8) := ⟨_, rfl⟩
  obtain ⟨N2, hN2⟩ : ∃ N : Nat, N = leN (sub b 2 2) := ⟨_, rfl⟩
  obtain ⟨N3, hN3⟩ : ∃ N : Nat, N = leN (sub b 4 2) := ⟨_, rfl⟩
  obtain ⟨N4, hN4⟩ : ∃ N : Nat, N = leN (sub b 24 4) := ⟨_, rfl⟩
  obtain ⟨E0, hE0⟩ : ∃ E, E = IntKind.i64.wrap (N0 : Int) := ⟨_, rfl⟩
  obtain ⟨E1, hE1⟩ : ∃ E, E = IntKind.i64.wrap (N1 : Int) := ⟨_, rfl⟩
  obtain ⟨E2, hE2⟩ : ∃ E, E = IntKind.i64.wrap (N2 : Int) := ⟨_, rfl⟩
  obtain ⟨E3, hE3⟩ : ∃ E, E = IntKind.i64.wrap (N3 : Int) := ⟨_, rfl⟩
  obtain ⟨E4, hE4⟩ : ∃ E, E = IntKind.i64.wrap (N4 : Int) := ⟨_, rfl⟩
  have HG : Hid (unG b = ⟨E0, E1, E2, E3, E4⟩) := Lib.hid (by unfold unG; rw [hE0, hE1, hE2, hE3, hE4, hN0, hN1, hN2, hN3, hN4])
  have D0 : Hid (Got bb off cap b (.slice (some ⟨bb, off + 8, none⟩) 8 (cap - 8)) N0) := Lib.hid ⟨8, 8, by omega, by omega, rfl, hN0⟩
  have D1 : Hid (Got bb off cap b (.slice (some ⟨bb, off + 16, none⟩) 8 (cap - 16)) N1) := Lib.hid ⟨16, 8, by omega, by omega, rfl, hN1⟩
  have D2 : Hid (Got bb off cap b (.slice (some ⟨bb, off + 2, none⟩) 2 (cap - 2)) N2) := Lib.hid ⟨2, 2, by omega, by omega, rfl, hN2⟩
  have D3 : Hid (Got bb off cap b (.slice (some ⟨bb, off + 4, none⟩) 2 (cap - 4)) N3) := Lib.hid ⟨4, 2, by omega, by omega, rfl, hN3⟩
  have D4 : Hid (Got bb off cap b (.slice (some ⟨bb, off + 24, none⟩) 4 (cap - 24)) N4) := Lib.hid ⟨24, 4, by omega, by omega, rfl, hN4⟩
  have GG := Lib.hid (fun (W : World) (v : Value) (N : Nat) (hb : Below w.heap.size w W) (h : Got bb off cap b v N) => got_any V.out HL.out v N hb h)
  obtain ⟨g, hg⟩ : ∃ g : Grp, g = ⟨E0, E1, E2, E3, E4⟩ := ⟨_, rfl⟩
  have HG' : Hid (unG b = g) := Lib.hid (by rw [hg]; exact HG.out)
  have GA : Hid (g.arr = #[.int .i64 E0, .int .i64 E1, .int .i64 E2, .int .i64 E3, .int .i64 E4]) := Lib.hid (by rw [hg]; rfl)
  have VA : Hid (∀ W, Calls Try.prog 28 #[.agg #[.int .i64 E0, .int .i64 E1, .int .i64 E2, .int .i64 E3, .int .i64 E4]] W fun e w' => e = .returned (.bool (valG g)) ∧ Below W.heap.size W w') := Lib.hid (fun W => by rw [← GA.out]; exact valid_any g W)
  have SH : Hid (Val g → ∀ W, Calls Try.prog 29 #[.agg g.arr] W fun e w' => e = .returned (.int .i64 (shG g)) ∧ Below W.heap.size W w') := Lib.hid (fun h W => share_any g h W)
  have e0 := hE0.symm; have e1 := hE1.symm; have e2 := hE2.symm; have e3 := hE3.symm; have e4 := hE4.symm
  have BL : Hid (∀ o : Obj, Below w.heap.size w (w.alloc o).drew ∧ ∀ o' : Obj, Below w.heap.size w ((w.alloc o).drew.alloc o') ∧ Below w.heap.size w ((w.alloc o).alloc o').drew) := Lib.hid (fun o => by
    have h1 : Below w.heap.size w (w.alloc o) := (Below.refl _ _).alloc (Nat.le_refl _) _
    have h2 : Below w.heap.size w (w.alloc o).drew := ⟨h1.os, h1.tape, h1.output, h1.size, h1.block⟩
    refine ⟨h2, fun o' => ⟨h2.alloc h2.size _, ?_⟩⟩
    have h3 : Below w.heap.size w ((w.alloc o).alloc o') := h1.alloc h1.size _
    exact ⟨h3.os, h3.tape, h3.output, h3.size, h3.block⟩)
  clear hg hl hn hc hE0 hE1 hE2 hE3 hE4 hN0 hN1 hN2 hN3 hN4
  have q1 : (16 : Int) ≤ (cap : Int) := by omega
  have q2 : (24 : Int) ≤ (cap : Int) := by omega
  have q3 : (4 : Int) ≤ (cap : Int) := by omega
  have q4 : (6 : Int) ≤ (cap : Int) := by omega
  have q5 : (28 : Int) ≤ (cap : Int) := by omega
  have p1 : ¬ cap = 8 := by omega
  have p2 : ¬ cap = 16 := by omega
  have p3 : ¬ cap = 2 := by omega
  have p4 : ¬ cap = 4 := by omega
  have p5 : ¬ cap = 24 := by omega
  go_enter Try.func10, Try.ntmps10
  go_wp2_with fail
  rename_i Q' K hK
  obtain ⟨U, hU⟩ : ∃ U, U = ((w.alloc (.cells #[.int .i64 0, .int .i64 0, .int .i64 0, .int .i64 0, .int .i64 0] 23)).alloc (.cells #[.int .i64 E0, .int .i64 E1, .int .i64 E2, .int .i64 E3, .int .i64 E4] 23)).drew := ⟨_, rfl⟩
  have U0 : Hid (Un w U zeroG g) := Lib.hid (by
    rw [hU]
    have h1 : Below w.heap.size w (w.alloc (.cells #[.int .i64 0, .int .i64 0, .int .i64 0, .int .i64 0, .int .i64 0] 23)) := (Below.refl _ _).alloc (Nat.le_refl _) _
    have h2 := h1.alloc h1.size (.cells #[.int .i64 E0, .int .i64 E1, .int .i64 E2, .int .i64 E3, .int .i64 E4] 23)
    refine ⟨?_, ?_, ⟨h2.os, h2.tape, h2.output, h2.size, h2.block⟩⟩
    · show ((w.alloc _).alloc _).heap[w.heap.size]? = _
      rw [Below.heap_alloc _ _ _ (by simp), heap_alloc_new]
      rfl
    · show ((w.alloc _).alloc _).heap[w.heap.size + 1]? = _
      rw [heap_alloc2_new, GA.out])
  have KEY : Exit.then K Q' Exit.normal
    {
      tmps :=
        #[Value.slice (some { block := bb, off := off }) 512 cap, undef,
          Value.pointer (some { block := w.heap.size, off := 0 }), Value.slice none 0 0, Value.int IntKind.i64 0,
          Value.pointer (some { block := w.heap.size + 1, off := 0 }), undef,
          Value.slice (some { block := bb, off := off }) 512 cap, Value.int IntKind.i64 512, Value.bool false, undef,
          Value.slice (some { block := bb, off := off }) 512 cap,
          Value.slice (some { block := bb, off := off + 8 }) 8 (cap - 8), Value.int IntKind.u64 (N0 : Int),
          Value.int IntKind.i64 E0, Value.slice (some { block := bb, off := off }) 512 cap,
          Value.slice (some { block := bb, off := off + 16 }) 8 (cap - 16), Value.int IntKind.u64 (N1 : Int),
          Value.int IntKind.i64 E1, Value.slice (some { block := bb, off := off }) 512 cap,
          Value.slice (some { block := bb, off := off + 2 }) 2 (cap - 2), Value.int IntKind.u64 (N2 : Int),
          Value.int IntKind.i64 E2, Value.slice (some { block := bb, off := off }) 512 cap,
          Value.slice (some { block := bb, off := off + 4 }) 2 (cap - 4), Value.int IntKind.u64 (N3 : Int),
          Value.int IntKind.i64 E3, Value.slice (some { block := bb, off := off }) 512 cap,
          Value.slice (some { block := bb, off := off + 24 }) 4 (cap - 24), Value.int IntKind.u64 (N4 : Int),
          Value.int IntKind.i64 E4,
          Value.agg
            #[Value.int IntKind.i64 E0, Value.int IntKind.i64 E1, Value.int IntKind.i64 E2, Value.int IntKind.i64 E3,
              Value.int IntKind.i64 E4],
          undef, undef, undef, undef, undef, undef, undef, undef, undef, undef, undef, undef, undef, undef, undef,
          undef, undef, undef, undef],
      defers := [] } U := by
    clear hU GG BL D0 D1 D2 D3 D4 e0 e1 e2 e3 e4
    go_wp2_with (refine wpList_load_row rfl 23 (.tmp 5) rfl (w.heap.size + 1) rfl 23 #[.int .i64 E0, .int .i64 E1, .int .i64 E2, .int .i64 E3, .int .i64 E4] (0, 0) _ (by rw [← GA.out]; exact U0.out.c) Try.underlying23 rfl size_group ?_)
    refine (VA.out U).mono ?_
    rintro r w2 ⟨rfl, hb2⟩
    have U2 := Lib.hid (U0.out.below hb2)
    clear hb2 U0 VA
    cases hvv : valG g with
    | false =>
      have HE : Hid (RR = (zeroG, [], 2)) := Lib.hid (by rw [HR.out]; unfold unR; rw [HG'.out, hvv, if_neg (by simp)])
      go_wp2_with (refine wpList_store_row rfl 23 (.tmp 2) (.tmp 35) rfl w.heap.size zeroG.arr rfl rfl 23 zeroG.arr U2.out.r size_group rfl (arr_one _) ?_)
      have U3 : Un w (w2.setRow w.heap.size zeroG.arr) zeroG g := ⟨setRow_heap _ _ _ _ _ _ U2.out.r, by rw [setRow_other _ _ _ _ (by omega)]; exact U2.out.c, below_setRow U2.out.bl (Nat.le_refl _) _⟩
      rw [HE.out]
      refine bodyPost_ret (results_cell2 rfl _ _ ⟨w.heap.size, 0, none⟩ (.agg zeroG.arr) rfl (load_group _ _ zeroG U3.r)) rfl ⟨_, rfl, World.ownsRow_nil _ _ _ _, U3.bl⟩
    | true =>
      have VG := Lib.hid ((val_iff g).1 hvv)
      obtain ⟨m, hm⟩ : ∃ m : Nat, shG g = (m : Int) := ⟨(shG g).toNat, by have := VG.out.share; omega⟩
      have hm1 : 1 ≤ m := by have := VG.out.share; omega
      have hm2 : m ≤ 464 := by have := VG.out.share; omega
      have SH' := Lib.hid (SH.out VG.out)
      rw [hm] at SH'
      obtain ⟨pl, hpl⟩ : ∃ pl, pl = sub b 32 m := ⟨_, rfl⟩
      have PL : Hid (unP b = pl ∧ pl.length = m) := Lib.hid (by
        refine ⟨?_, ?_⟩
        · unfold unP; rw [HG'.out, hm, Int.toNat_natCast, hpl]
        · rw [hpl]; unfold sub; rw [List.length_take, List.length_drop, HL.out]; omega)
      have BP : Hid (∀ W, Below w.heap.size w W → Bytes W (.slice (some ⟨bb, off + 32, none⟩) m (cap - 32)) pl) := Lib.hid (fun W hb => by
        have hb' : Bytes W (.slice (some ⟨bb, off, none⟩) b.length cap) b := by rw [HL.out]; exact V.out.below hb
        have hd := hb'.drop 32 (by rw [HL.out]; omega)
        rw [← List.length_drop] at hd
        have ht := hd.take m (by rw [List.length_drop, HL.out]; omega)
        simp only [Option.map_some, add_plain] at ht
        rw [hpl]
        exact ht)
      have q6 : (32 : Int) + (m : Int) ≤ (cap : Int) := by omega
      have p6 : ¬ cap = 32 := by omega
      clear SH hm hpl hvv q1 q2 q3 q4 q5 p1 p2 p3 p4 p5
      go_wp2_with (refine wpList_load_row rfl 23 (.tmp 5) rfl (w.heap.size + 1) rfl 23 g.arr (0, 0) _ U2.out.c Try.underlying23 rfl size_group ?_)
      refine (SH'.out w2).mono ?_
      rintro r w3 ⟨rfl, hb3⟩
      have U3 := Lib.hid (U2.out.below hb3)
      have CL := Lib.hid (clone_any _ pl w3 (BP.out w3 U3.out.bl) (by rw [PL.out.2]; omega) (by rw [PL.out.2]; omega))
      clear hb3 SH' U2
      go_wp2_with fail
      refine CL.out.mono ?_
      rintro r w4 ⟨vp, rfl, ho4, hb4⟩
      have U4 := Lib.hid (U3.out.below hb4)
      have O4 := Lib.hid ho4
      have LY := Lib.hid (lay_any g VG.out vp pl (by rw [PL.out.2]; exact hm2) w4 ho4.bytes)
      have s34 : Hid (w.heap.size + 1 < w3.heap.size) := Lib.hid (lt_of_heap U3.out.c)
      clear ho4 hb4 CL U3
      go_wp2_with (refine wpList_load_row rfl 23 (.tmp 5) rfl (w.heap.size + 1) rfl 23 g.arr (0, 0) _ U4.out.c Try.underlying23 rfl size_group ?_)
      refine LY.out.mono ?_
      rintro r w5 ⟨gb, rfl, ho5, hb5⟩
      have U5 := Lib.hid (U4.out.below hb5)
      have O5 : Hid (Own w3.heap.size w5 vp pl) := Lib.hid (O4.out.below hb5)
      have EQ := Lib.hid (equal_any (.slice (some ⟨gb, 0, none⟩) 512 512) (.slice (some ⟨bb, off, none⟩) 512 cap) (layB g pl) b w5 ho5.bytes (V.out.below U5.out.bl))
      clear ho5 hb5 LY U4 O4
      go_wp2_with fail
      refine EQ.out.mono ?_
      rintro r w6 ⟨rfl, rfl⟩
      clear EQ
      by_cases hle : layB g pl = b
      · have hd : decide (layB g pl = b) = true := decide_eq_true hle
        have HE : Hid (RR = (g, pl, 0)) := Lib.hid (by rw [HR.out]; unfold unR; rw [HG'.out, PL.out.1, (val_iff g).2 VG.out, if_pos ⟨rfl, hle⟩])
        rw [hd]
        clear hd hle
        go_wp2_with first | (refine wpList_load_row rfl 23 (.tmp 5) rfl (w.heap.size + 1) rfl 23 g.arr (0, 0) _ U5.out.c Try.underlying23 rfl size_group ?_) | (refine wpList_store_row rfl 23 (.tmp 2) (.tmp 49) rfl w.heap.size g.arr rfl rfl 23 zeroG.arr U5.out.r size_group rfl (arr_one _) ?_)
        rw [HE.out]
        have K6 := kept_setRow w6 w.heap.size g.arr
        have hr := setRow_heap w6 w.heap.size zeroG.arr g.arr _ _ U5.out.r
        refine bodyPost_ret (results_cell2 rfl _ _ ⟨w.heap.size, 0, none⟩ (.agg g.arr) rfl (load_group _ _ g hr)) rfl ⟨_, rfl, ?_, below_setRow U5.out.bl (Nat.le_refl _) _⟩
        exact ((O5.out.kept K6 (fun k hk e => by have := (O5.out.lt k hk).1; have := s34.out; omega)).mono (by have := s34.out; omega))
      · have hd : decide (layB g pl = b) = false := decide_eq_false hle
        have HE : Hid (RR = (zeroG, [], 2)) := Lib.hid (by rw [HR.out]; unfold unR; rw [HG'.out, PL.out.1, if_neg (fun h => hle h.2)])
        rw [hd]
        clear hd hle
        go_wp2_with (refine wpList_store_row rfl 23 (.tmp 2) (.tmp 48) rfl w.heap.size zeroG.arr rfl rfl 23 zeroG.arr U5.out.r size_group rfl (arr_one _) ?_)
        have hr := setRow_heap w6 w.heap.size zeroG.arr zeroG.arr _ _ U5.out.r
        rw [HE.out]
        exact bodyPost_ret (results_cell2 rfl _ _ ⟨w.heap.size, 0, none⟩ (.agg zeroG.arr) rfl (load_group _ _ zeroG hr)) rfl ⟨_, rfl, World.ownsRow_nil _ _ _ _, below_setRow U5.out.bl (Nat.le_refl _) _⟩
  rw [hU] at KEY
  clear U0 hU VA SH
  have KK := Lib.hid KEY
  clear KEY
  go_region_held (fun _ : World => True) (exact trivial) (first | (go_at_call 35; refine (GG.out _ _ _ (by first | exact (BL.out _).1 | exact ((BL.out _).2 _).1 | exact ((BL.out _).2 _).2) (by with_reducible first | exact D0.out | exact D1.out | exact D2.out | exact D3.out | exact D4.out)).mono ?_; rintro r w8 ⟨rfl, rfl⟩))
  all_goals exact KK.out
end Go.Proofs.Ytfljbipnjfciaab
