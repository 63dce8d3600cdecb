/-
  Encode of what does not fit; Decode of another length.
-/
import Derived.Test.YtmoghdpjemidgaaPgEa
import Derived.Test.YtmoghdpjemidgaaPgR
namespace Go.Proofs.Ytmoghdpjemidgaa
open Go.RowKit Go.Maps
set_option maxHeartbeats 1000000 in
theorem encode_no (n : Nd) (v : Nv) (w : World) (hv : Ls w v n) (hz : Sz n) (hf : fitB n = false) :
    Calls Try.prog 9 #[.agg (n.arr v)] w fun e w' => e = .returned (.tuple #[.slice none 0 0, .int .i64 1]) ∧ Below w.heap.size w w' := by
  have NA : Hid (n.arr v = #[.int .i64 n.kind, v.e, v.c, v.k, v.h, .int .i64 n.next, .string n.data]) := Lib.hid rfl
  obtain ⟨kd, hkd⟩ : ∃ x, x = n.kind := ⟨_, rfl⟩
  obtain ⟨nx, hnx⟩ : ∃ x, x = n.next := ⟨_, rfl⟩
  obtain ⟨dt, hdt⟩ : ∃ x, x = n.data := ⟨_, rfl⟩
  obtain ⟨ve, hve⟩ : ∃ x, x = v.e := ⟨_, rfl⟩
  obtain ⟨vc, hvc⟩ : ∃ x, x = v.c := ⟨_, rfl⟩
  obtain ⟨vk, hvk⟩ : ∃ x, x = v.k := ⟨_, rfl⟩
  obtain ⟨vh, hvh⟩ : ∃ x, x = v.h := ⟨_, rfl⟩
  rw [← hkd, ← hnx, ← hdt, ← hve, ← hvc, ← hvk, ← hvh] at NA
  rw [NA.out]
  obtain ⟨gx, hgx⟩ : ∃ gx, gx = w.heap.size := ⟨_, rfl⟩
  obtain ⟨X, hX⟩ : ∃ X, X = w.alloc (.cells #[.int .i64 kd, ve, vc, vk, vh, .int .i64 nx, .string dt] 27) := ⟨_, rfl⟩
  have XX : Hid (Below w.heap.size w X) := Lib.hid (by rw [hX]; exact (Below.refl _ _).alloc (Nat.le_refl _) _)
  obtain ⟨p0, p1, p2, p3, p4, p5, p6⟩ := node_cells (W := X) (g := gx) (kd := kd) (nx := nx) (dt := dt) (ve := ve) (vc := vc) (vk := vk) (vh := vh) (by rw [hX, hgx]; exact heap_alloc_new _ _)
  have FI : Hid (Calls Try.prog 7 #[.agg #[.int .i64 kd, ve, vc, vk, vh, .int .i64 nx, .string dt]] X fun e w' => e = .returned (.bool false) ∧ Below X.heap.size X w') := Lib.hid (by
    rw [← NA.out, ← hf]
    exact Fits_any n v X (hv.below XX.out) hz)
  have hX' := hX.symm
  have hgx' := hgx.symm
  clear hv hz hf hkd hnx hdt hve hvc hvk hvh hX hgx
  go_enter Try.func9, Try.ntmps9
  go_wp2_with (go_at_call 7; refine FI.out.mono ?_; rintro e w1 ⟨rfl, hb⟩; have H1 := Lib.hid hb; clear hb)
  go_ret2
  exact ⟨rfl, XX.out.trans (H1.out.mono XX.out.size)⟩
/-- The zero node. -/
def zN : Array Value := #[.int .i64 0, .slice none 0 0, .slice none 0 0, .slice none 0 0, .slice none 0 0, .int .i64 0, .string ⟨#[]⟩]
set_option maxHeartbeats 1000000 in
theorem decode_short (a : Option Addr) (n cap : Nat) (w : World) (hn : n ≠ 512) (_hm : n ≤ 9223372036854775807) :
    Calls Try.prog 11 #[.slice a n cap] w fun e w' => e = .returned (.tuple #[.agg zN, .int .i64 61]) ∧ Below w.heap.size w w' := by
  have g0 : ((n : Int) != 512) = true := by rw [bne_iff_ne]; omega
  obtain ⟨gs, hgs⟩ : ∃ gs, gs = w.heap.size := ⟨_, rfl⟩
  obtain ⟨X1, hX1⟩ : ∃ X1, X1 = w.alloc (.cells #[.int .i64 0, .slice none 0 0, .slice none 0 0, .slice none 0 0, .slice none 0 0, .int .i64 0, .string ⟨#[]⟩] 27) := ⟨_, rfl⟩
  have B1 : Hid (Below w.heap.size w X1 ∧ X1.heap[gs]? = some (.cells #[.int .i64 0, .slice none 0 0, .slice none 0 0, .slice none 0 0, .slice none 0 0, .int .i64 0, .string ⟨#[]⟩] 27 (0, 0)) ∧ w.heap.size ≤ gs) := Lib.hid ⟨by rw [hX1]; exact (Below.refl _ _).alloc (Nat.le_refl _) _, by rw [hX1, hgs]; exact heap_alloc_new _ _, by omega⟩
  have ON : Hid ((#[.int .i64 0, .slice none 0 0, .slice none 0 0, .slice none 0 0, .slice none 0 0, .int .i64 0, .string ⟨#[]⟩] : Array Value).all (·.oneCell') = true) := Lib.hid (by simp [Value.oneCell'])
  have hgs' := hgs.symm; have hX1' := hX1.symm
  clear hgs hX1 hn
  go_enter Try.func11, Try.ntmps11
  go_wp2_with (refine wpList_store_row rfl 27 (.tmp 2) (.tmp 10) rfl gs #[.int .i64 0, .slice none 0 0, .slice none 0 0, .slice none 0 0, .slice none 0 0, .int .i64 0, .string ⟨#[]⟩] rfl rfl 27 #[.int .i64 0, .slice none 0 0, .slice none 0 0, .slice none 0 0, .slice none 0 0, .int .i64 0, .string ⟨#[]⟩] B1.out.2.1 size_node rfl ON.out ?_)
  refine bodyPost_ret (results_cell1 rfl _ _ ⟨gs, 0, none⟩ (.agg zN) rfl (load_node (setRow_heap _ _ _ _ _ _ B1.out.2.1) rfl)) rfl ?_
  exact ⟨rfl, B1.out.1.trans ((kept_setRow _ _ _).below B1.out.1.size (fun x hx => by have := B1.out.2.2; omega))⟩
end Go.Proofs.Ytmoghdpjemidgaa
