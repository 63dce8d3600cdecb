/-
  The document's first example: small; its bytes and back; its key.
-/
import Derived.Test.YtehgnbgbmicheaaGreatDoorObF
namespace Go.Proofs.YtehgnbgbmicheaaGreatDoor
open Go.RowKit
def smO : Ob := ⟨⟨#[47, 97]⟩, ⟨#[120]⟩, [], 3, 0, [⟨⟨#[109, 97, 105, 110]⟩, [⟨⟨#[99, 112, 117]⟩, 500⟩], []⟩], 7⟩
def smT : ByteArray := ⟨#[79, 1, 2, 47, 97, 1, 120, 0, 3, 0, 1, 4, 109, 97, 105, 110, 1, 3, 99, 112, 117, 244, 3, 0, 7]⟩
theorem sm_stands : obS smO = true := by decide +kernel
theorem sm_bytes : outR (obE smO) = (smT, 0) := by decide +kernel
theorem sm_enc : obR smO = (smT, 0) := by unfold obR; rw [sm_stands, if_pos rfl, sm_bytes]
theorem sm_read : dcO smT = smO := by kernel_rfl
theorem sm_dec : decR smT = (smO, 0) := by unfold decR; rw [sm_read, sm_enc, if_pos rfl]
theorem sm_key : keyR 3 ⟨#[47, 97]⟩ ⟨#[120]⟩ = (⟨#[111, 0, 1, 47, 97, 0, 1, 120, 0, 1]⟩, 0) := by decide +kernel
theorem smO_fit : smO.Fit := by
  refine ⟨⟨by decide, by decide⟩, fun x hx => by simp [smO] at hx, fun x hx => ?_, by decide⟩
  simp only [smO, List.mem_cons, List.not_mem_nil, or_false] at hx
  subst hx
  refine ⟨by decide, fun y hy => ?_, fun y hy => by simp at hy⟩
  simp only [List.mem_cons, List.not_mem_nil, or_false] at hy
  subst hy
  exact ⟨by decide, by decide, by decide⟩
set_option maxHeartbeats 4000000 in
set_option maxRecDepth 100000 in
theorem small_any (w : World) : Calls Tryz.prog 11 #[] w fun e w' => ∃ vl vp, e = .returned (smO.val vl vp) ∧ ObO w.heap.size w' vl vp smO ∧ Below w.heap.size w w' := by
  obtain ⟨X0, hX0⟩ : ∃ X0, X0 = w.alloc (.cells #[.string ⟨#[]⟩, .string ⟨#[]⟩, .slice none 0 0, .int .i64 0, .int .i64 0, .slice none 0 0, .int .i64 0] 25) := ⟨_, rfl⟩
  obtain ⟨b1, hb1⟩ : ∃ b1, b1 = X0.heap.size := ⟨_, rfl⟩
  obtain ⟨X1, hX1⟩ : ∃ X1, X1 = X0.alloc (.cells #[.string ⟨#[99, 112, 117]⟩, .int .i64 500] 56) := ⟨_, rfl⟩
  obtain ⟨b2, hb2⟩ : ∃ b2, b2 = X1.heap.size := ⟨_, rfl⟩
  obtain ⟨X2, hX2⟩ : ∃ X2, X2 = X1.alloc (.cells #[.string ⟨#[109, 97, 105, 110]⟩, .slice (some ⟨b1, 0, none⟩) 1 1, .slice none 0 0] 52) := ⟨_, rfl⟩
  have s0 : X0.heap.size = w.heap.size + 1 := by rw [hX0]; simp
  have s1 : X1.heap.size = w.heap.size + 2 := by rw [hX1]; simp [s0]
  have A0 : Below w.heap.size w X0 := by rw [hX0]; exact (Below.refl _ w).alloc (Nat.le_refl _) _
  have A1 : Below X0.heap.size X0 X1 := by rw [hX1]; exact (Below.refl _ _).alloc (Nat.le_refl _) _
  have A2 : Below X1.heap.size X1 X2 := by rw [hX2]; exact (Below.refl _ _).alloc (Nat.le_refl _) _
  have OA : OwnR kAm X0.heap.size X1 (.slice (some ⟨b1, 0, none⟩) 1 1) [⟨⟨#[99, 112, 117]⟩, 500⟩] := by
    rw [hX1, hb1]; exact row_built X0 [⟨⟨#[99, 112, 117]⟩, 500⟩] okAm rfl rfl (by decide)
  have OP : OwnR kPt X1.heap.size X2 (.slice (some ⟨b2, 0, none⟩) 1 1) [⟨⟨#[109, 97, 105, 110]⟩, ⟨some ⟨b1, 0, none⟩, 1, 1⟩, ⟨none, 0, 0⟩⟩] := by
    rw [hX2, hb2]; exact row_built X1 [⟨⟨#[109, 97, 105, 110]⟩, ⟨some ⟨b1, 0, none⟩, 1, 1⟩, ⟨none, 0, 0⟩⟩] okPt rfl rfl (by show 1 ≤ maxLen; decide)
  have O : Hid (ObO (w.heap.size + 1) X2 (.slice none 0 0) (.slice (some ⟨b2, 0, none⟩) 1 1) smO) := Lib.hid ⟨_, OwnR.nil _ _ _, OP.mono (by omega), rfl, fun k hk => by
    obtain rfl : k = 0 := by simp [smO] at hk; exact hk
    exact ⟨rfl, (OA.below A2).mono (by omega), OwnR.nil _ _ _⟩⟩
  have Z : Hid (X2.heap[w.heap.size]? = some (.cells #[.string ⟨#[]⟩, .string ⟨#[]⟩, .slice none 0 0, .int .i64 0, .int .i64 0, .slice none 0 0, .int .i64 0] 25 (0, 0))) := Lib.hid (by
    rw [A2.block _ (by omega), A1.block _ (by omega), hX0, heap_alloc_new])
  have BW : Hid (Below w.heap.size w X2) := Lib.hid ((A0.trans (A1.mono A0.size)).trans (A2.mono (A0.trans (A1.mono A0.size)).size))
  have ON : Hid ((#[.string ⟨#[47, 97]⟩, .string ⟨#[120]⟩, .slice none 0 0, .int .i64 3, .int .i64 0, .slice (some ⟨b2, 0, none⟩) 1 1, .int .i64 7] : Array Value).all (·.oneCell') = true) := Lib.hid (by simp [Value.oneCell'])
  have h0 := hX0.symm
  have h1 := hX1.symm
  have h2 := hX2.symm
  have h3 := hb1.symm
  have h4 := hb2.symm
  clear hX0 hX1 hX2 hb1 hb2 s0 s1 A0 A1 A2 OA OP
  go_enter Tryz.func11, Tryz.ntmps11
  go_wp2_with (refine wpList_store_row rfl 25 (.tmp 0) (.tmp 5) rfl w.heap.size #[.string ⟨#[47, 97]⟩, .string ⟨#[120]⟩, .slice none 0 0, .int .i64 3, .int .i64 0, .slice (some ⟨b2, 0, none⟩) 1 1, .int .i64 7] rfl rfl 25 #[.string ⟨#[]⟩, .string ⟨#[]⟩, .slice none 0 0, .int .i64 0, .int .i64 0, .slice none 0 0, .int .i64 0] Z.out size_obj rfl ON.out ?_)
  have hk := kept_setRow X2 w.heap.size #[.string ⟨#[47, 97]⟩, .string ⟨#[120]⟩, .slice none 0 0, .int .i64 3, .int .i64 0, .slice (some ⟨b2, 0, none⟩) 1 1, .int .i64 7]
  refine bodyPost_ret (results_cell_row rfl _ _ w.heap.size 25 #[.string ⟨#[47, 97]⟩, .string ⟨#[120]⟩, .slice none 0 0, .int .i64 3, .int .i64 0, .slice (some ⟨b2, 0, none⟩) 1 1, .int .i64 7] (0, 0) _ rfl (setRow_heap _ _ _ _ _ _ Z.out) Tryz.underlying25 rfl size_obj) rfl ?_
  exact ⟨_, _, rfl, (O.out.kept hk (fun k e => by omega)).mono (Nat.le_succ _), BW.out.trans (hk.below BW.out.size (fun x hx => by omega))⟩
end Go.Proofs.YtehgnbgbmicheaaGreatDoor
