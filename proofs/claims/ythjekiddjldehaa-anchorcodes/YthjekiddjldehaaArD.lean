/-
  The document's Decode.
-/
import Derived.Test.YthjekiddjldehaaArE
import Derived.Test.YthjekiddjldehaaAnE
namespace Go.Proofs.Ythjekiddjldehaa
open Go.RowKit Go.Maps
set_option maxHeartbeats 400000 in
theorem rdec_short (v : Value) (b : List UInt8) (w : World) (hv : Bytes w v b) (hl : b.length ≠ 512) : Calls Try.prog 28 #[v] w fun e w' => e = .returned (.tuple #[.agg zeroS.arr, .int .i64 61]) ∧ Below w.heap.size w w' := by
  obtain ⟨a, cap, rfl, hlc, hcm, hn, hc⟩ := hv
  unfold maxLen at hcm
  have hne : ((b.length : Int) != 512) = true := by rw [bne_iff_ne]; omega
  obtain ⟨n, hnn⟩ : ∃ n, n = b.length := ⟨_, rfl⟩
  rw [← hnn] at hne hlc ⊢
  clear hc hn hnn
  go_enter Try.func28, Try.ntmps28
  go_wp2_with fail
  refine bodyPost_ret (results_cell1 rfl _ _ ⟨w.heap.size, 0, none⟩ (.agg zeroS.arr) rfl (load_super _ _ zeroS ?_)) rfl ⟨rfl, ?_⟩
  · exact heap_alloc_new _ _
  · exact (Below.refl _ _).alloc (Nat.le_refl _) _
set_option maxRecDepth 100000 in
set_option maxHeartbeats 8000000 in
theorem rdec_full (v : Value) (b : List UInt8) (w : World) (hv : Bytes w v b) (hl : b.length = 512) : Calls Try.prog 28 #[v] w fun e w' => e = .returned (.tuple #[.agg (decR b).1.arr, .int .i64 (decR b).2]) ∧ Below w.heap.size w w' := by
  obtain ⟨RR, hRR⟩ : ∃ RR, RR = decR b := ⟨_, rfl⟩
  rw [← hRR]
  obtain ⟨⟨E0, E1, E2, E3, E4, E5, E6, E7, E8⟩, hs⟩ : ∃ s, s = seA b := ⟨_, rfl⟩
  have HR : Hid (RR = if vaB (Sup.mk E0 E1 E2 E3 E4 E5 E6 E7 E8) E2 = true ∧ layA (Sup.mk E0 E1 E2 E3 E4 E5 E6 E7 E8) = b then ((Sup.mk E0 E1 E2 E3 E4 E5 E6 E7 E8), 0) else (zeroS, 2)) := Lib.hid (by rw [hRR]; unfold decR; rw [if_neg (by rw [hl]; simp), ← hs])
  clear hRR
  have V := Lib.hid hv
  obtain ⟨a, cap, rfl, hlc, hcm, hn, hc⟩ := hv
  unfold maxLen at hcm
  rw [hl] at hlc V ⊢
  have HL := Lib.hid hl
  obtain ⟨X, hX⟩ : ∃ X, X = w.alloc (.cells #[.int .i64 0, .int .i64 0, .int .i64 0, .int .i64 0, .int .i64 0, .int .i64 0, .int .i64 0, .int .i64 0, .int .i64 0] 25) := ⟨_, rfl⟩
  obtain ⟨gr, hgr⟩ : ∃ g, g = w.heap.size := ⟨_, rfl⟩
  have BX : Hid (Below w.heap.size w X) := Lib.hid (by rw [hX]; exact (Below.refl _ _).alloc (Nat.le_refl _) _)
  have GX : Hid (X.heap[gr]? = some (.cells zeroS.arr 25 (0, 0)) ∧ gr = w.heap.size) := Lib.hid ⟨by rw [hgr, hX]; exact heap_alloc_new _ _, hgr⟩
  have BV : Hid (Bytes X (.slice a 512 cap) b) := Lib.hid (V.out.below BX.out)
  have G0 : Hid (∀ W, Bytes W (.slice a 512 cap) b → Calls Try.prog 56 #[.slice a 512 cap, .int .i64 ((8 : Nat) : Int), .int .i64 ((8 : Nat) : Int)] W fun e w' => e = .returned (.int .i64 E0) ∧ w' = W) := Lib.hid (fun W h => by have := rgot_any (.slice a 512 cap) b 8 8 W h HL.out (by decide); rw [show E0 = IntKind.i64.wrap (leN (subB b 8 8) : Int) from congrArg Sup.gen hs]; exact this)
  have G1 : Hid (∀ W, Bytes W (.slice a 512 cap) b → Calls Try.prog 56 #[.slice a 512 cap, .int .i64 ((16 : Nat) : Int), .int .i64 ((8 : Nat) : Int)] W fun e w' => e = .returned (.int .i64 E1) ∧ w' = W) := Lib.hid (fun W h => by have := rgot_any (.slice a 512 cap) b 16 8 W h HL.out (by decide); rw [show E1 = IntKind.i64.wrap (leN (subB b 16 8) : Int) from congrArg Sup.ep hs]; exact this)
  have G2 : Hid (∀ W, Bytes W (.slice a 512 cap) b → Calls Try.prog 56 #[.slice a 512 cap, .int .i64 ((24 : Nat) : Int), .int .i64 ((4 : Nat) : Int)] W fun e w' => e = .returned (.int .i64 E2) ∧ w' = W) := Lib.hid (fun W h => by have := rgot_any (.slice a 512 cap) b 24 4 W h HL.out (by decide); rw [show E2 = IntKind.i64.wrap (leN (subB b 24 4) : Int) from congrArg Sup.blk hs]; exact this)
  have G3 : Hid (∀ W, Bytes W (.slice a 512 cap) b → Calls Try.prog 56 #[.slice a 512 cap, .int .i64 ((28 : Nat) : Int), .int .i64 ((4 : Nat) : Int)] W fun e w' => e = .returned (.int .i64 E3) ∧ w' = W) := Lib.hid (fun W h => by have := rgot_any (.slice a 512 cap) b 28 4 W h HL.out (by decide); rw [show E3 = IntKind.i64.wrap (leN (subB b 28 4) : Int) from congrArg Sup.log hs]; exact this)
  have G4 : Hid (∀ W, Bytes W (.slice a 512 cap) b → Calls Try.prog 56 #[.slice a 512 cap, .int .i64 ((32 : Nat) : Int), .int .i64 ((8 : Nat) : Int)] W fun e w' => e = .returned (.int .i64 E4) ∧ w' = W) := Lib.hid (fun W h => by have := rgot_any (.slice a 512 cap) b 32 8 W h HL.out (by decide); rw [show E4 = IntKind.i64.wrap (leN (subB b 32 8) : Int) from congrArg Sup.st hs]; exact this)
  have G5 : Hid (∀ W, Bytes W (.slice a 512 cap) b → Calls Try.prog 56 #[.slice a 512 cap, .int .i64 ((40 : Nat) : Int), .int .i64 ((4 : Nat) : Int)] W fun e w' => e = .returned (.int .i64 E5) ∧ w' = W) := Lib.hid (fun W h => by have := rgot_any (.slice a 512 cap) b 40 4 W h HL.out (by decide); rw [show E5 = IntKind.i64.wrap (leN (subB b 40 4) : Int) from congrArg Sup.pl hs]; exact this)
  have G6 : Hid (∀ W, Bytes W (.slice a 512 cap) b → Calls Try.prog 56 #[.slice a 512 cap, .int .i64 ((44 : Nat) : Int), .int .i64 ((4 : Nat) : Int)] W fun e w' => e = .returned (.int .i64 E6) ∧ w' = W) := Lib.hid (fun W h => by have := rgot_any (.slice a 512 cap) b 44 4 W h HL.out (by decide); rw [show E6 = IntKind.i64.wrap (leN (subB b 44 4) : Int) from congrArg Sup.rt hs]; exact this)
  have G7 : Hid (∀ W, Bytes W (.slice a 512 cap) b → Calls Try.prog 56 #[.slice a 512 cap, .int .i64 ((48 : Nat) : Int), .int .i64 ((8 : Nat) : Int)] W fun e w' => e = .returned (.int .i64 E7) ∧ w' = W) := Lib.hid (fun W h => by have := rgot_any (.slice a 512 cap) b 48 8 W h HL.out (by decide); rw [show E7 = IntKind.i64.wrap (leN (subB b 48 8) : Int) from congrArg Sup.cnt hs]; exact this)
  have G8 : Hid (∀ W, Bytes W (.slice a 512 cap) b → Calls Try.prog 56 #[.slice a 512 cap, .int .i64 ((56 : Nat) : Int), .int .i64 ((8 : Nat) : Int)] W fun e w' => e = .returned (.int .i64 E8) ∧ w' = W) := Lib.hid (fun W h => by have := rgot_any (.slice a 512 cap) b 56 8 W h HL.out (by decide); rw [show E8 = IntKind.i64.wrap (leN (subB b 56 8) : Int) from congrArg Sup.ver hs]; exact this)
  have hX' := hX.symm
  have hgr' := hgr.symm
  clear hX hgr hl hn hc hs
  have BA : Hid (∀ ob, Bytes (X.alloc ob) (.slice a 512 cap) b) := Lib.hid (fun ob => BV.out.below ((Below.refl _ _).alloc (Nat.le_refl _) ob))
  have KS : Hid (∀ W : World, Below (X.alloc (.cells #[.int .i64 E0, .int .i64 E1, .int .i64 E2, .int .i64 E3, .int .i64 E4, .int .i64 E5, .int .i64 E6, .int .i64 E7, .int .i64 E8] 25)).heap.size (X.alloc (.cells #[.int .i64 E0, .int .i64 E1, .int .i64 E2, .int .i64 E3, .int .i64 E4, .int .i64 E5, .int .i64 E6, .int .i64 E7, .int .i64 E8] 25)) W → (W.cell? ⟨X.heap.size, 0, none⟩ = some (.int .i64 E0) ∧ W.cell? ⟨X.heap.size, 1, none⟩ = some (.int .i64 E1) ∧ W.cell? ⟨X.heap.size, 2, none⟩ = some (.int .i64 E2) ∧ W.cell? ⟨X.heap.size, 3, none⟩ = some (.int .i64 E3) ∧ W.cell? ⟨X.heap.size, 4, none⟩ = some (.int .i64 E4) ∧ W.cell? ⟨X.heap.size, 5, none⟩ = some (.int .i64 E5) ∧ W.cell? ⟨X.heap.size, 6, none⟩ = some (.int .i64 E6) ∧ W.cell? ⟨X.heap.size, 7, none⟩ = some (.int .i64 E7) ∧ W.cell? ⟨X.heap.size, 8, none⟩ = some (.int .i64 E8)) ∧ W.heap[X.heap.size]? = some (.cells (Sup.mk E0 E1 E2 E3 E4 E5 E6 E7 E8).arr 25 (0, 0)) ∧ W.heap[gr]? = some (.cells zeroS.arr 25 (0, 0)) ∧ Below w.heap.size w W ∧ Bytes W (.slice a 512 cap) b) := Lib.hid (fun W h => by
    have q1 : Below X.heap.size X (X.alloc (.cells #[.int .i64 E0, .int .i64 E1, .int .i64 E2, .int .i64 E3, .int .i64 E4, .int .i64 E5, .int .i64 E6, .int .i64 E7, .int .i64 E8] 25)) := (Below.refl _ _).alloc (Nat.le_refl _) _
    have q2 := q1.trans (h.mono q1.size)
    have q3 : W.heap[X.heap.size]? = some (.cells (Sup.mk E0 E1 E2 E3 E4 E5 E6 E7 E8).arr 25 (0, 0)) := (h.block _ (by simp)).trans (heap_alloc_new _ _)
    have q4 := BX.out.trans (q2.mono BX.out.size)
    exact ⟨sup_cells q3, q3, (q2.block gr (lt_of_heap GX.out.1)).trans GX.out.1, q4, V.out.below q4⟩)
  go_enter Try.func28, Try.ntmps28
  cases hv : vaB (Sup.mk E0 E1 E2 E3 E4 E5 E6 E7 E8) E2 with
  | false =>
    have EN : Hid (∀ W, Calls Try.prog 26 #[.agg #[.int .i64 E0, .int .i64 E1, .int .i64 E2, .int .i64 E3, .int .i64 E4, .int .i64 E5, .int .i64 E6, .int .i64 E7, .int .i64 E8]] W fun e w' => e = .returned (.tuple #[.slice none 0 0, .int .i64 1]) ∧ Below W.heap.size W w') := Lib.hid (fun W => renc_no (Sup.mk E0 E1 E2 E3 E4 E5 E6 E7 E8) W hv)
    have HE : Hid (RR = (zeroS, 2)) := Lib.hid (by rw [HR.out, hv, if_neg (by simp)])
    clear hv HR
    go_wp2_with fail
    refine (G0.out _ BV.out).mono ?_
    rintro e w9 ⟨rfl, hw9⟩
    obtain rfl := hw9.symm
    clear hw9 G0
    go_wp2_with fail
    refine (G1.out _ BV.out).mono ?_
    rintro e w9 ⟨rfl, hw9⟩
    obtain rfl := hw9.symm
    clear hw9 G1
    go_wp2_with fail
    refine (G2.out _ BV.out).mono ?_
    rintro e w9 ⟨rfl, hw9⟩
    obtain rfl := hw9.symm
    clear hw9 G2
    go_wp2_with fail
    refine (G3.out _ BV.out).mono ?_
    rintro e w9 ⟨rfl, hw9⟩
    obtain rfl := hw9.symm
    clear hw9 G3
    go_wp2_with fail
    refine (G6.out _ BV.out).mono ?_
    rintro e w9 ⟨rfl, hw9⟩
    obtain rfl := hw9.symm
    clear hw9 G6
    go_wp2_with fail
    refine (G7.out _ BV.out).mono ?_
    rintro e w9 ⟨rfl, hw9⟩
    obtain rfl := hw9.symm
    clear hw9 G7
    go_wp2_with fail
    refine (G8.out _ BV.out).mono ?_
    rintro e w9 ⟨rfl, hw9⟩
    obtain rfl := hw9.symm
    clear hw9 G8
    go_wp2_with fail
    refine (G4.out _ (BA.out _)).mono ?_
    rintro e w9 ⟨rfl, rfl⟩
    clear G4
    go_wp2_with fail
    refine (G5.out _ (BA.out _)).mono ?_
    rintro e w9 ⟨rfl, rfl⟩
    clear G5
    go_wp2_with fail
    refine (EN.out _).mono ?_
    rintro e w2 ⟨rfl, b2⟩
    have B2 := Lib.hid (KS.out w2 b2).2
    clear b2 EN KS hX' hgr'
    go_wp2_with (first | (refine wpList_store_row rfl 25 (.tmp 2) (.tmp 46) rfl gr zeroS.arr rfl rfl 25 zeroS.arr B2.out.2.1 size_super rfl (arr_one _) ?_))
    rw [HE.out]
    refine bodyPost_ret (results_cell1 rfl _ _ ⟨gr, 0, none⟩ (.agg zeroS.arr) rfl (load_super _ _ zeroS (setRow_heap _ _ _ _ _ _ B2.out.2.1))) rfl ⟨rfl, ?_⟩
    exact below_setRow B2.out.2.2.1 (by rw [GX.out.2]; exact Nat.le_refl _) _
  | true =>
    have EN : Hid (∀ W, Calls Try.prog 26 #[.agg #[.int .i64 E0, .int .i64 E1, .int .i64 E2, .int .i64 E3, .int .i64 E4, .int .i64 E5, .int .i64 E6, .int .i64 E7, .int .i64 E8]] W fun e w' => ∃ gb, e = .returned (.tuple #[.slice (some ⟨gb, 0, none⟩) 512 512, .int .i64 0]) ∧ Own W.heap.size w' (.slice (some ⟨gb, 0, none⟩) 512 512) (layA (Sup.mk E0 E1 E2 E3 E4 E5 E6 E7 E8)) ∧ Below W.heap.size W w') := Lib.hid (fun W => renc_yes (Sup.mk E0 E1 E2 E3 E4 E5 E6 E7 E8) W hv)
    by_cases hle : layA (Sup.mk E0 E1 E2 E3 E4 E5 E6 E7 E8) = b
    · have HE : Hid (RR = ((Sup.mk E0 E1 E2 E3 E4 E5 E6 E7 E8), 0)) := Lib.hid (by rw [HR.out, hv, if_pos ⟨rfl, hle⟩])
      obtain ⟨T1, hT1⟩ : ∃ T, T = txt (layA (Sup.mk E0 E1 E2 E3 E4 E5 E6 E7 E8)) := ⟨_, rfl⟩
      obtain ⟨T2, hT2⟩ : ∃ T, T = txt b := ⟨_, rfl⟩
      have tb : (T1.toList == T2.toList) = true := by rw [hT1, hT2, txt_beq, decide_eq_true hle]
      have HT := Lib.hid (And.intro hT1 hT2)
      clear hv HR hle hT1 hT2
      go_wp2_with fail
      refine (G0.out _ BV.out).mono ?_
      rintro e w9 ⟨rfl, hw9⟩
      obtain rfl := hw9.symm
      clear hw9 G0
      go_wp2_with fail
      refine (G1.out _ BV.out).mono ?_
      rintro e w9 ⟨rfl, hw9⟩
      obtain rfl := hw9.symm
      clear hw9 G1
      go_wp2_with fail
      refine (G2.out _ BV.out).mono ?_
      rintro e w9 ⟨rfl, hw9⟩
      obtain rfl := hw9.symm
      clear hw9 G2
      go_wp2_with fail
      refine (G3.out _ BV.out).mono ?_
      rintro e w9 ⟨rfl, hw9⟩
      obtain rfl := hw9.symm
      clear hw9 G3
      go_wp2_with fail
      refine (G6.out _ BV.out).mono ?_
      rintro e w9 ⟨rfl, hw9⟩
      obtain rfl := hw9.symm
      clear hw9 G6
      go_wp2_with fail
      refine (G7.out _ BV.out).mono ?_
      rintro e w9 ⟨rfl, hw9⟩
      obtain rfl := hw9.symm
      clear hw9 G7
      go_wp2_with fail
      refine (G8.out _ BV.out).mono ?_
      rintro e w9 ⟨rfl, hw9⟩
      obtain rfl := hw9.symm
      clear hw9 G8
      go_wp2_with fail
      refine (G4.out _ (BA.out _)).mono ?_
      rintro e w9 ⟨rfl, rfl⟩
      clear G4
      go_wp2_with fail
      refine (G5.out _ (BA.out _)).mono ?_
      rintro e w9 ⟨rfl, rfl⟩
      clear G5
      go_wp2_with fail
      refine (EN.out _).mono ?_
      rintro e w2 ⟨gb, rfl, o2, b2⟩
      obtain ⟨⟨y0, y1, y2, y3, y4, y5, y6, y7, y8⟩, b2'⟩ := KS.out w2 b2
      have B2 := Lib.hid b2'
      have cv1 : (convert 32 9 (.slice (some ⟨gb, 0, none⟩) 512 512)).run Try.prog w2 = .ok (.string T1) w2 := by rw [HT.out.1]; exact convT o2.bytes
      have cv2 : (convert 32 9 (.slice a 512 cap)).run Try.prog w2 = .ok (.string T2) w2 := by rw [HT.out.2]; exact convT B2.out.2.2.2
      clear b2 b2' o2 EN KS hX' hgr'
      go_wp2_with (first | (refine wpList_load_row rfl 25 (.tmp 4) rfl X.heap.size rfl 25 (Sup.mk E0 E1 E2 E3 E4 E5 E6 E7 E8).arr (0, 0) _ B2.out.1 Try.underlying25 rfl size_super ?_) | (refine wpList_store_row rfl 25 (.tmp 2) (.tmp 47) rfl gr (Sup.mk E0 E1 E2 E3 E4 E5 E6 E7 E8).arr rfl rfl 25 zeroS.arr B2.out.2.1 size_super rfl (arr_one _) ?_))
      rw [HE.out]
      refine bodyPost_ret (results_cell1 rfl _ _ ⟨gr, 0, none⟩ (.agg (Sup.mk E0 E1 E2 E3 E4 E5 E6 E7 E8).arr) rfl (load_super _ _ (Sup.mk E0 E1 E2 E3 E4 E5 E6 E7 E8) (setRow_heap _ _ _ _ _ _ B2.out.2.1))) rfl ⟨rfl, ?_⟩
      exact below_setRow B2.out.2.2.1 (by rw [GX.out.2]; exact Nat.le_refl _) _
    · have HE : Hid (RR = (zeroS, 2)) := Lib.hid (by rw [HR.out, if_neg (fun h => hle h.2)])
      obtain ⟨T1, hT1⟩ : ∃ T, T = txt (layA (Sup.mk E0 E1 E2 E3 E4 E5 E6 E7 E8)) := ⟨_, rfl⟩
      obtain ⟨T2, hT2⟩ : ∃ T, T = txt b := ⟨_, rfl⟩
      have tb : (T1.toList == T2.toList) = false := by rw [hT1, hT2, txt_beq, decide_eq_false hle]
      have HT := Lib.hid (And.intro hT1 hT2)
      clear hv HR hle hT1 hT2
      go_wp2_with fail
      refine (G0.out _ BV.out).mono ?_
      rintro e w9 ⟨rfl, hw9⟩
      obtain rfl := hw9.symm
      clear hw9 G0
      go_wp2_with fail
      refine (G1.out _ BV.out).mono ?_
      rintro e w9 ⟨rfl, hw9⟩
      obtain rfl := hw9.symm
      clear hw9 G1
      go_wp2_with fail
      refine (G2.out _ BV.out).mono ?_
      rintro e w9 ⟨rfl, hw9⟩
      obtain rfl := hw9.symm
      clear hw9 G2
      go_wp2_with fail
      refine (G3.out _ BV.out).mono ?_
      rintro e w9 ⟨rfl, hw9⟩
      obtain rfl := hw9.symm
      clear hw9 G3
      go_wp2_with fail
      refine (G6.out _ BV.out).mono ?_
      rintro e w9 ⟨rfl, hw9⟩
      obtain rfl := hw9.symm
      clear hw9 G6
      go_wp2_with fail
      refine (G7.out _ BV.out).mono ?_
      rintro e w9 ⟨rfl, hw9⟩
      obtain rfl := hw9.symm
      clear hw9 G7
      go_wp2_with fail
      refine (G8.out _ BV.out).mono ?_
      rintro e w9 ⟨rfl, hw9⟩
      obtain rfl := hw9.symm
      clear hw9 G8
      go_wp2_with fail
      refine (G4.out _ (BA.out _)).mono ?_
      rintro e w9 ⟨rfl, rfl⟩
      clear G4
      go_wp2_with fail
      refine (G5.out _ (BA.out _)).mono ?_
      rintro e w9 ⟨rfl, rfl⟩
      clear G5
      go_wp2_with fail
      refine (EN.out _).mono ?_
      rintro e w2 ⟨gb, rfl, o2, b2⟩
      have B2 := Lib.hid (KS.out w2 b2).2
      have cv1 : (convert 32 9 (.slice (some ⟨gb, 0, none⟩) 512 512)).run Try.prog w2 = .ok (.string T1) w2 := by rw [HT.out.1]; exact convT o2.bytes
      have cv2 : (convert 32 9 (.slice a 512 cap)).run Try.prog w2 = .ok (.string T2) w2 := by rw [HT.out.2]; exact convT B2.out.2.2.2
      clear b2 o2 EN KS hX' hgr'
      go_wp2_with (first | (refine wpList_store_row rfl 25 (.tmp 2) (.tmp 46) rfl gr zeroS.arr rfl rfl 25 zeroS.arr B2.out.2.1 size_super rfl (arr_one _) ?_))
      rw [HE.out]
      refine bodyPost_ret (results_cell1 rfl _ _ ⟨gr, 0, none⟩ (.agg zeroS.arr) rfl (load_super _ _ zeroS (setRow_heap _ _ _ _ _ _ B2.out.2.1))) rfl ⟨rfl, ?_⟩
      exact below_setRow B2.out.2.2.1 (by rw [GX.out.2]; exact Nat.le_refl _) _
theorem rdec_any (v : Value) (b : List UInt8) (w : World) (hv : Bytes w v b) : Calls Try.prog 28 #[v] w fun e w' => e = .returned (.tuple #[.agg (decR b).1.arr, .int .i64 (decR b).2]) ∧ Below w.heap.size w w' := by
  by_cases hl : b.length = 512
  · exact rdec_full v b w hv hl
  · have h := rdec_short v b w hv hl
    unfold decR
    rw [if_pos hl]
    exact h
end Go.Proofs.Ythjekiddjldehaa
