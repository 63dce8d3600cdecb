/-
  Valid.
-/
import Derived.Test.YtbdlebengmbooaaAnVn
import Derived.Test.YtbdlebengmbooaaAnVr
import Derived.BigQuiet
namespace Go.Proofs.Ytbdlebengmbooaa
open Go.RowKit Go.Maps
/-- What the cells of a box say. -/
theorem sup_cells {W : World} {g : Nat} {s : Sup} (h : W.heap[g]? = some (.cells s.arr 34 (0, 0))) : W.cell? ⟨g, 0, none⟩ = some (.int .i64 s.gen) ∧ W.cell? ⟨g, 1, none⟩ = some (.int .i64 s.ep) ∧ W.cell? ⟨g, 2, none⟩ = some (.int .i64 s.blk) ∧ W.cell? ⟨g, 3, none⟩ = some (.int .i64 s.log) ∧ W.cell? ⟨g, 4, none⟩ = some (.int .i64 s.st) ∧ W.cell? ⟨g, 5, none⟩ = some (.int .i64 s.pl) ∧ W.cell? ⟨g, 6, none⟩ = some (.int .i64 s.rt) ∧ W.cell? ⟨g, 7, none⟩ = some (.int .i64 s.cnt) ∧ W.cell? ⟨g, 8, none⟩ = some (.int .i64 s.ver) := by
  refine ⟨?_, ?_, ?_, ?_, ?_, ?_, ?_, ?_, ?_⟩ <;> (rw [cell_of_row W g _ _ _ _ h]; rfl)
set_option maxRecDepth 100000 in
set_option maxHeartbeats 4000000 in
theorem valid_any (s : Sup) (b : Int) (w : World) : Calls Try.prog 26 #[.agg s.arr, .int .i64 b] w fun e w' => e = .returned (.bool (vaB s b)) ∧ Below w.heap.size w w' := by
  obtain ⟨r, hr⟩ : ∃ r, r = vaB s b := ⟨_, rfl⟩
  rw [← hr]
  have RR := Lib.hid hr
  unfold vaB at RR
  clear hr
  obtain ⟨X, hX⟩ : ∃ X, X = w.alloc (.cells s.arr 34) := ⟨_, rfl⟩
  obtain ⟨gx, hgx⟩ : ∃ gx, gx = w.heap.size := ⟨_, rfl⟩
  have BX : Hid (Below w.heap.size w X) := Lib.hid (by rw [hX]; exact (Below.refl _ _).alloc (Nat.le_refl _) _)
  have GX : Hid (X.heap[gx]? = some (.cells s.arr 34 (0, 0))) := Lib.hid (by rw [hgx, hX]; exact heap_alloc_new _ _)
  have GW : Hid (∀ W : World, Below X.heap.size X W → W.heap[gx]? = some (.cells s.arr 34 (0, 0))) := Lib.hid (fun W h => (h.block gx (lt_of_heap GX.out)).trans GX.out)
  have PA : Hid (∀ W : World, Below X.heap.size X W → Calls Try.prog 46 #[.agg s.arr] W fun e w' => e = .returned (.bool (parB s)) ∧ Below X.heap.size X w') := Lib.hid (fun W h => (parted_any s W).mono (fun e w' q => ⟨q.1, h.trans (q.2.mono h.size)⟩))
  have PL : Hid (parB s = true → 8 ≤ s.log ∧ s.log ≤ 512) := Lib.hid (fun h => by unfold parB at h; simp only [Bool.and_eq_true, decide_eq_true_iff] at h; exact ⟨h.2.2.1, h.2.2.2.1⟩)
  have NU : Hid (parB s = true → ∀ W : World, Below X.heap.size X W → Calls Try.prog 47 #[.agg s.arr] W fun e w' => e = .returned (.bool (numB s)) ∧ Below X.heap.size X w') := Lib.hid (fun hp W h => (numbered_any s W (PL.out hp).1 (PL.out hp).2).mono (fun e w' q => ⟨q.1, h.trans (q.2.mono h.size)⟩))
  have RO : Hid (parB s = true → ∀ W : World, Below X.heap.size X W → Calls Try.prog 48 #[.agg s.arr] W fun e w' => e = .returned (.bool (rooB s)) ∧ Below X.heap.size X w') := Lib.hid (fun hp W h => (rooted_any s W (PL.out hp).1 (PL.out hp).2).mono (fun e w' q => ⟨q.1, h.trans (q.2.mono h.size)⟩))
  have KS : Hid (∀ W : World, Below X.heap.size X W → W.cell? ⟨gx, 0, none⟩ = some (.int .i64 s.gen) ∧ W.cell? ⟨gx, 1, none⟩ = some (.int .i64 s.ep) ∧ W.cell? ⟨gx, 2, none⟩ = some (.int .i64 s.blk) ∧ W.cell? ⟨gx, 3, none⟩ = some (.int .i64 s.log) ∧ W.cell? ⟨gx, 4, none⟩ = some (.int .i64 s.st) ∧ W.cell? ⟨gx, 5, none⟩ = some (.int .i64 s.pl) ∧ W.cell? ⟨gx, 6, none⟩ = some (.int .i64 s.rt) ∧ W.cell? ⟨gx, 7, none⟩ = some (.int .i64 s.cnt) ∧ W.cell? ⟨gx, 8, none⟩ = some (.int .i64 s.ver)) := Lib.hid (fun W h => sup_cells (GW.out W h))
  have XX : Hid (Below X.heap.size X X) := Lib.hid (Below.refl _ _)
  obtain ⟨xp, hxp⟩ : ∃ p, p = parB s := ⟨_, rfl⟩
  obtain ⟨xn, hxn⟩ : ∃ p, p = numB s := ⟨_, rfl⟩
  obtain ⟨xr, hxr⟩ : ∃ p, p = rooB s := ⟨_, rfl⟩
  rw [← hxp] at PA NU RO RR
  rw [← hxn] at NU RR
  rw [← hxr] at RO RR
  have sarr : s.arr = #[.int .i64 s.gen, .int .i64 s.ep, .int .i64 s.blk, .int .i64 s.log, .int .i64 s.st, .int .i64 s.pl, .int .i64 s.rt, .int .i64 s.cnt, .int .i64 s.ver] := rfl
  rw [sarr] at PA NU RO hX ⊢
  have hX' := hX.symm
  have hgx' := hgx.symm
  obtain ⟨y0, y1, y2, y3, y4, y5, y6, y7, y8⟩ := KS.out X XX.out
  clear hX hgx GX GW PL hxp hxn hxr sarr
  obtain ⟨xgen, xep, xblk, xlog, xst, xpl, xrt, xcnt, xver⟩ := s
  simp only at *
  by_cases h0 : xblk = b
  case neg =>
    have f0 : (xblk == b) = false := by rw [beq_eq_false_iff_ne]; exact h0
    obtain rfl : r = false := by rw [RR.out, decide_eq_false h0]; rfl
    clear RR
    go_enter Try.func26, Try.ntmps26
    go_wp2_with fail
    go_ret
    exact ⟨rfl, BX.out⟩
  have f0 : (xblk == b) = true := by rw [beq_iff_eq]; exact h0
  have RS : Hid (r = (xp && (xn && xr))) := Lib.hid (by rw [RR.out, decide_eq_true h0]; rfl)
  clear RR
  subst h0
  clear f0
  cases xp with
  | false =>
    obtain rfl : r = false := RS.out
    clear NU RO
    go_enter Try.func26, Try.ntmps26
    go_wp2_with (first | (go_at_call 46; refine (PA.out _ XX.out).mono ?_; rintro e w1 ⟨rfl, b1⟩; have B1 := Lib.hid b1; clear b1; obtain ⟨z0, z1, z2, z3, z4, z5, z6, z7, z8⟩ := KS.out w1 B1.out))
    go_ret
    exact ⟨rfl, BX.out.trans (B1.out.mono BX.out.size)⟩
  | true =>
    have NU' := Lib.hid (NU.out rfl)
    have RO' := Lib.hid (RO.out rfl)
    clear NU RO
    cases xn with
    | false =>
      obtain rfl : r = false := RS.out
      go_enter Try.func26, Try.ntmps26
      go_wp2_with (first | (go_at_call 46; refine (PA.out _ XX.out).mono ?_; rintro e w1 ⟨rfl, b1⟩; have B1 := Lib.hid b1; clear b1; obtain ⟨z0, z1, z2, z3, z4, z5, z6, z7, z8⟩ := KS.out w1 B1.out) | (go_at_call 47; refine (NU'.out _ B1.out).mono ?_; rintro e w2 ⟨rfl, b2⟩; have B2 := Lib.hid b2; clear b2; obtain ⟨u0, u1, u2, u3, u4, u5, u6, u7, u8⟩ := KS.out w2 B2.out))
      go_ret
      exact ⟨rfl, BX.out.trans (B2.out.mono BX.out.size)⟩
    | true =>
      obtain rfl : r = xr := by rw [RS.out, Bool.true_and, Bool.true_and]
      go_enter Try.func26, Try.ntmps26
      go_wp2_with (first | (go_at_call 46; refine (PA.out _ XX.out).mono ?_; rintro e w1 ⟨rfl, b1⟩; have B1 := Lib.hid b1; clear b1; obtain ⟨z0, z1, z2, z3, z4, z5, z6, z7, z8⟩ := KS.out w1 B1.out) | (go_at_call 47; refine (NU'.out _ B1.out).mono ?_; rintro e w2 ⟨rfl, b2⟩; have B2 := Lib.hid b2; clear b2; obtain ⟨u0, u1, u2, u3, u4, u5, u6, u7, u8⟩ := KS.out w2 B2.out) | (go_at_call 48; refine (RO'.out _ B2.out).mono ?_; rintro e w3 ⟨rfl, b3⟩; have B3 := Lib.hid b3; clear b3))
      go_ret
      exact ⟨rfl, BX.out.trans (B3.out.mono BX.out.size)⟩
end Go.Proofs.Ytbdlebengmbooaa
