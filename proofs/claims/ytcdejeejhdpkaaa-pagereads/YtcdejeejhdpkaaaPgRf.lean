/-
  The document's Fits.
-/
import Derived.Test.YtcdejeejhdpkaaaPgRe
namespace Go.Proofs.Ytcdejeejhdpkaaa
open Go.RowKit Go.Maps
set_option maxHeartbeats 1000000 in
theorem rFits_any (n : Nd) (v : Nv) (w : World) (hv : Ls w v n) (hz : Sz n) :
    Calls Try.prog 46 #[.agg (n.arr v)] w fun e w' => e = .returned (.bool (fitB n)) ∧ Below w.heap.size w w' := by
  unfold fitB
  obtain ⟨r, hr⟩ : ∃ r, r = sizeN n := ⟨_, rfl⟩
  rw [← hr]
  obtain ⟨kd, hkd⟩ : ∃ x, x = n.kind := ⟨_, rfl⟩
  obtain ⟨nx, hnx⟩ : ∃ x, x = n.next := ⟨_, rfl⟩
  obtain ⟨dt, hdt⟩ : ∃ x, x = n.data := ⟨_, rfl⟩
  obtain ⟨ve, hve⟩ : ∃ x, x = v.e := ⟨_, rfl⟩
  obtain ⟨vc, hvc⟩ : ∃ x, x = v.c := ⟨_, rfl⟩
  obtain ⟨vk, hvk⟩ : ∃ x, x = v.k := ⟨_, rfl⟩
  obtain ⟨vh, hvh⟩ : ∃ x, x = v.h := ⟨_, rfl⟩
  have hA : #[.int .i64 kd, ve, vc, vk, vh, .int .i64 nx, .string dt] = n.arr v := by rw [hkd, hnx, hdt, hve, hvc, hvk, hvh]; rfl
  rw [← hA]
  obtain ⟨gx, hgx⟩ : ∃ gx, gx = w.heap.size := ⟨_, rfl⟩
  obtain ⟨X, hX⟩ : ∃ X, X = w.alloc (.cells #[.int .i64 kd, ve, vc, vk, vh, .int .i64 nx, .string dt] 27) := ⟨_, rfl⟩
  have XX : Hid (Below w.heap.size w X) := Lib.hid (by rw [hX]; exact (Below.refl _ _).alloc (Nat.le_refl _) _)
  obtain ⟨p0, p1, p2, p3, p4, p5, p6⟩ := node_cells (W := X) (g := gx) (kd := kd) (nx := nx) (dt := dt) (ve := ve) (vc := vc) (vk := vk) (vh := vh) (by rw [hX, hgx]; exact heap_alloc_new _ _)
  have C1 : Hid (Calls Try.prog 52 #[.agg #[.int .i64 kd, ve, vc, vk, vh, .int .i64 nx, .string dt]] X fun e w' => e = .returned (.int .i64 r) ∧ Below X.heap.size X w') := Lib.hid (by
    rw [hA, hr]
    exact rSize_any n v X (hv.below XX.out) hz)
  have hX' := hX.symm
  have hgx' := hgx.symm
  clear hr hv hz hA hX hgx hkd hnx hdt hve hvc hvk hvh
  by_cases h0 : r ≥ 0
  · have d0 : decide (r ≥ 0) = true := decide_eq_true h0
    clear h0
    go_enter Try.func46, Try.ntmps46
    go_wp2_with (go_at_call 52; refine C1.out.mono ?_; rintro e w1 ⟨rfl, hb⟩; have H1 := Lib.hid hb; clear hb)
    go_ret
    refine ⟨?_, XX.out.trans (H1.out.mono XX.out.size)⟩
    rw [show decide (0 ≤ r) = true from d0, Bool.true_and]
    rfl
  · have d0 : decide (r ≥ 0) = false := decide_eq_false h0
    have e0 : decide (0 ≤ r) = false := d0
    rw [e0]
    clear h0 e0
    go_enter Try.func46, Try.ntmps46
    go_wp2_with (go_at_call 52; refine C1.out.mono ?_; rintro e w1 ⟨rfl, hb⟩; have H1 := Lib.hid hb; clear hb)
    go_ret
    exact ⟨rfl, XX.out.trans (H1.out.mono XX.out.size)⟩
end Go.Proofs.Ytcdejeejhdpkaaa
