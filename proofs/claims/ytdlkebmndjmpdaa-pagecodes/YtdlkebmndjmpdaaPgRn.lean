/-
  The document's Encode, whole: of what fits and of what does not.
-/
import Derived.Test.YtdlkebmndjmpdaaPgE1
import Derived.Test.YtdlkebmndjmpdaaPgE2
import Derived.Test.YtdlkebmndjmpdaaPgE3
namespace Go.Proofs.Ytdlkebmndjmpdaa
open Go.RowKit Go.Maps
set_option maxHeartbeats 4000000 in
set_option maxRecDepth 100000 in
theorem renc_no (n : Nd) (v : Nv) (w : World) (hv : Ls w v n) (hz : Sz n) (hf : fitB n = false) :
    Calls Try.prog 21 #[.agg (n.arr v)] w fun e w' => e = .returned (.tuple #[.slice none 0 0, .int .i64 1]) ∧ Below w.heap.size w w' := by
  have NA : Hid (n.arr v = #[.int .i64 n.kind, v.e, v.c, v.k, v.h, .int .i64 n.next, .string n.data]) := Lib.hid rfl
  obtain ⟨kd, hkd⟩ : ∃ x, x = n.kind := ⟨_, rfl⟩
  obtain ⟨nx, hnx⟩ : ∃ x, x = n.next := ⟨_, rfl⟩
  obtain ⟨dt, hdt⟩ : ∃ x, x = n.data := ⟨_, rfl⟩
  obtain ⟨ve, hve⟩ : ∃ x, x = v.e := ⟨_, rfl⟩
  obtain ⟨vc, hvc⟩ : ∃ x, x = v.c := ⟨_, rfl⟩
  obtain ⟨vk, hvk⟩ : ∃ x, x = v.k := ⟨_, rfl⟩
  obtain ⟨vh, hvh⟩ : ∃ x, x = v.h := ⟨_, rfl⟩
  rw [← hkd, ← hnx, ← hdt, ← hve, ← hvc, ← hvk, ← hvh] at NA
  rw [NA.out]
  obtain ⟨gx, hgx⟩ : ∃ gx, gx = w.heap.size := ⟨_, rfl⟩
  obtain ⟨X, hX⟩ : ∃ X, X = w.alloc (.cells #[.int .i64 kd, ve, vc, vk, vh, .int .i64 nx, .string dt] 27) := ⟨_, rfl⟩
  have XX : Hid (Below w.heap.size w X) := Lib.hid (by rw [hX]; exact (Below.refl _ _).alloc (Nat.le_refl _) _)
  obtain ⟨p0, p1, p2, p3, p4, p5, p6⟩ := node_cells (W := X) (g := gx) (kd := kd) (nx := nx) (dt := dt) (ve := ve) (vc := vc) (vk := vk) (vh := vh) (by rw [hX, hgx]; exact heap_alloc_new _ _)
  have FI : Hid (Calls Try.prog 23 #[.agg #[.int .i64 kd, ve, vc, vk, vh, .int .i64 nx, .string dt]] X fun e w' => e = .returned (.bool false) ∧ Below X.heap.size X w') := Lib.hid (by
    rw [← NA.out, ← hf]
    exact rFits_any n v X (hv.below XX.out) hz)
  have hX' := hX.symm
  have hgx' := hgx.symm
  clear hv hz hf hkd hnx hdt hve hvc hvk hvh hX hgx
  go_enter Try.func21, Try.ntmps21
  go_wp2_with (go_at_call 23; refine FI.out.mono ?_; rintro e w1 ⟨rfl, hb⟩; have H1 := Lib.hid hb; clear hb)
  go_ret2
  exact ⟨rfl, XX.out.trans (H1.out.mono XX.out.size)⟩
theorem renc_yes (n : Nd) (v : Nv) (w : World) (hv : Ls w v n) (hz : Sz n) (hf : fitB n = true) :
    Calls Try.prog 21 #[.agg (n.arr v)] w fun e w' => ∃ v', e = .returned (.tuple #[v', .int .i64 0]) ∧ Own w.heap.size w' v' (encN n) ∧ Below w.heap.size w w' := by
  rcases fit_cases hf with ⟨il, _, _⟩ | ⟨il, _, _⟩ | il
  · exact renc_leaf n v w hv hz hf il
  · exact renc_inner n v w hv hz hf il
  · exact renc_chain n v w hv hz hf il
end Go.Proofs.Ytdlkebmndjmpdaa
