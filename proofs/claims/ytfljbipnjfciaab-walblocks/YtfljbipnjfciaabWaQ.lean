/-
  scan: of a region with no group, and with one of one block.
-/
import Derived.Test.YtfljbipnjfciaabWaP
namespace Go.Proofs.Ytfljbipnjfciaab
open Go.RowKit Go.Maps
variable {B : Nat} {w W W' : World} {d mb mp : Nat} {cv : Value} {ds : DS} {l : Nat} {pv : Value} {s : LS}
theorem rdB_rd1 (ds : DS) (b : Nat) : rdB (rd1 ds) b = rdB ds b := rfl
set_option maxRecDepth 100000 in
set_option maxHeartbeats 4000000 in
theorem scan_none (h : Wl B w d mb mp cv ds l pv s) (hdn : ds.down = false) (hn : s.fst + s.n ≤ ds.n) (hf : 0 < s.free) (hz : unR (rdB ds (s.at 0)) = (zeroG, [], 2)) : Calls Try.prog 61 #[.pointer (some ⟨l, 0, none⟩)] w fun e w' => e = .returned (.tuple #[.slice none 0 0, .int .i64 0]) ∧ Wl B w' d mb mp cv (rd1 ds) l pv s ∧ Kept (fun k => k = d) w w' := by
  obtain ⟨F, hF⟩ : ∃ F, F = s.free := ⟨_, rfl⟩
  rw [← hF] at hf
  have FR : Hid (Calls Try.prog 62 #[.pointer (some ⟨l, 0, none⟩)] w fun e w' => e = .returned (.int .i64 (F : Int)) ∧ Below w.heap.size w w') := Lib.hid (by rw [hF]; exact free_any h.lg)
  have GR : Hid (∀ W, Below w.heap.size w W → Calls Try.prog 83 #[.pointer (some ⟨l, 0, none⟩), .int .i64 1] W fun e w' => e = .returned (.tuple #[.agg zeroG.arr, .slice none 0 0, .int .i64 0]) ∧ Wl B w' d mb mp cv (rd1 ds) l pv s ∧ Kept (fun k => k = d) W w') := Lib.hid (fun W hb => group_zero (h.below hb) hdn hn 1 hz)
  have SP : Hid (∀ W, Calls Try.prog 84 #[.slice none 0 0] W fun e w' => ∃ vr, e = .returned (.tuple #[vr, .bool false]) ∧ Below W.heap.size W w') := Lib.hid (fun W => by
    refine (split_any _ [] W (Bytes.nil W) (by simp)).mono ?_
    rintro e w' ⟨vr, rfl, _, hb⟩
    exact ⟨vr, rfl, hb⟩)
  clear h hdn hn hz hF
  go_enter Try.func61, Try.ntmps61
  go_wp2_with fail
  refine wp_loop_rounds 1 ?_
  rw [rounds_succ]
  go_wp2_with fail
  refine FR.out.mono ?_
  rintro r w2 ⟨rfl, hb2⟩
  have B2 := Lib.hid hb2
  have hf' : (0 : Int) < (F : Int) := by omega
  have GR2 := Lib.hid (GR.out w2 hb2)
  clear hb2 FR GR
  go_wp2_with fail
  refine GR2.out.mono ?_
  rintro r w3 ⟨rfl, hw3, hk3⟩
  have F3 := Lib.hid (And.intro hw3 hk3)
  clear hw3 hk3 GR2
  obtain ⟨Y, hY⟩ : ∃ Y, Y = w3.alloc (.cells #[.int .i64 0, .int .i64 0, .int .i64 0, .int .i64 0, .int .i64 0] 23) := ⟨_, rfl⟩
  have GY : Hid (Y.heap[w3.heap.size]? = some (.cells zeroG.arr 23 (0, 0))) := Lib.hid (by rw [hY]; exact heap_alloc_new _ _)
  have BY : Hid (Below w3.heap.size w3 Y) := Lib.hid (by rw [hY]; exact (Below.refl _ _).alloc (Nat.le_refl _) _)
  obtain ⟨Z, hZ⟩ : ∃ Z, Z = Y.setRow w3.heap.size zeroG.arr := ⟨_, rfl⟩
  have BZ : Hid (Below w3.heap.size w3 Z) := Lib.hid (by rw [hZ]; exact below_setRow BY.out (Nat.le_refl _) _)
  have hZ' := hZ.symm
  have hY' := hY.symm
  clear hZ hY
  go_wp2_with (refine wpList_store_row rfl 23 (.tmp 6) (.tmp 18) rfl w3.heap.size zeroG.arr rfl rfl 23 zeroG.arr GY.out size_group rfl (arr_one _) ?_; rw [hZ'])
  refine (SP.out Z).mono ?_
  rintro r w4 ⟨vr, rfl, hb4⟩
  have B4 := Lib.hid hb4
  clear hb4 SP
  go_wp2_with fail
  go_ret2
  have b34 : Below w3.heap.size w3 w4 := BZ.out.trans (B4.out.mono BZ.out.size)
  refine ⟨rfl, F3.out.1.below b34, ?_⟩
  have k1 : Kept (fun k => k = d) w w2 := Below.kept B2.out _
  exact (k1.trans F3.out.2 (fun _ _ q => q)).trans (Below.kept b34 (fun _ => False)) (fun _ _ q => q.elim)
end Go.Proofs.Ytfljbipnjfciaab
