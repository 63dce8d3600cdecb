/-
  Line, at the laws fixed path.
-/
import Derived.Test.YtjlpcklcnabldaaDoorLReadK
namespace Go.Proofs.YtjlpcklcnabldaaDoor.L
open Go.RowKit
theorem spl_ab : Lib.splitB ⟨#[47]⟩ 0 1 ⟨#[97, 47, 98]⟩ = [⟨#[97]⟩, ⟨#[98]⟩] := by kernel_rfl
theorem cnt_ab : Lib.countB ⟨#[97, 47, 98]⟩ ⟨#[47]⟩ = 1 := by kernel_rfl
theorem last_ab : Lib.lastIndexByte ⟨#[47, 97, 47, 98]⟩ 47 = 2 := by kernel_rfl
theorem last_a : Lib.lastIndexByte ⟨#[47, 97]⟩ 47 = 0 := by kernel_rfl
set_option maxHeartbeats 2000000 in
theorem split_k (w : World) (hm : HasM w) : Calls Tryd.prog 8 #[.string ⟨#[47, 97, 47, 98]⟩] w fun e w' => ∃ v, e = .returned (.tuple #[v, .int .i64 0]) ∧ Below w.heap.size w w' := by
  have H := Lib.hid hm
  clear hm
  go_enter Tryd.func8, Tryd.ntmps8
  go_wp2_with fail
  refine (Tryd.strings_CutPrefix ⟨#[47, 97, 47, 98]⟩ ⟨#[47]⟩ w).mono ?_
  rintro e w1 ⟨rfl, rfl⟩
  rw [show Lib.trimPrefix (⟨#[47, 97, 47, 98]⟩ : ByteArray).data.toList (⟨#[47]⟩ : ByteArray).data.toList = [97, 47, 98] by decide, show Lib.hasPrefix (⟨#[47, 97, 47, 98]⟩ : ByteArray).data.toList (⟨#[47]⟩ : ByteArray).data.toList = true by decide]
  go_wp2_with fail
  obtain ⟨m, hm⟩ := H.out
  refine (Tryd.strings_Split ⟨#[97, 47, 98]⟩ ⟨#[47]⟩ m w1 (by decide) hm (by decide)).mono ?_
  rintro e w2 ⟨rfl, hw2⟩
  rw [cnt_ab, spl_ab] at *
  have S2 : Hid (Strs w2 (.slice (some ⟨w1.heap.size, 0, none⟩) 2 2) [⟨#[97]⟩, ⟨#[98]⟩]) := Lib.hid ⟨_, 2, rfl, by simp, by decide, (fun h => by cases h), fun k hk => ⟨_, 0, rfl, by
    rw [hw2, World.cell?_alloc_new]
    match k, hk with
    | 0, _ => rfl
    | 1, _ => rfl
    | (k + 2), hk => exact absurd hk (by simp)⟩⟩
  have B2 : Hid (Below w1.heap.size w1 w2) := Lib.hid (by rw [hw2]; exact (Below.refl _ w1).alloc (Nat.le_refl _) _)
  clear hw2 hm
  go_wp2_with fail
  refine (allNames_any _ _ w2 S2.out).mono ?_
  rintro e w3 ⟨rfl, hb⟩
  rw [show ([⟨#[97]⟩, ⟨#[98]⟩] : List ByteArray).all nameB = true from rfl]
  have B3 := Lib.hid (B2.out.trans (hb.mono B2.out.size))
  clear hb S2 B2
  go_wp2_with fail
  go_ret2
  exact ⟨_, rfl, B3.out⟩
set_option maxHeartbeats 2000000 in
theorem path_k (w : World) (hm : HasM w) : Calls Tryd.prog 14 #[.string ⟨#[47, 97, 47, 98]⟩] w fun e w' => e = .returned (.int .i64 0) ∧ Below w.heap.size w w' := by
  have H := Lib.hid hm
  clear hm
  go_enter Tryd.func14, Tryd.ntmps14
  go_wp2_with fail
  refine (split_k w H.out).mono ?_
  rintro e w1 ⟨v, rfl, hb⟩
  have B1 := Lib.hid hb
  clear hb
  go_wp2_with fail
  go_ret
  exact ⟨rfl, B1.out⟩
set_option maxHeartbeats 2000000 in
theorem above_ab (w : World) : Calls Tryd.prog 15 #[.string ⟨#[47, 97, 47, 98]⟩] w fun e w' => e = .returned (.string ⟨#[47, 97]⟩) ∧ w' = w := by
  go_enter Tryd.func15, Tryd.ntmps15
  go_wp2_with fail
  refine (Tryd.strings_LastIndex_one ⟨#[47, 97, 47, 98]⟩ ⟨#[47]⟩ (by decide) (by decide) w).mono ?_
  rintro e w1 ⟨rfl, rfl⟩
  rw [show Lib.lastIndexByte ⟨#[47, 97, 47, 98]⟩ (((⟨#[47]⟩ : ByteArray)[0]'(by decide)).toNat : Int) = 2 from last_ab]
  go_wp2_with fail
  go_ret
  exact ⟨by rfl, rfl⟩
set_option maxHeartbeats 2000000 in
theorem above_a (w : World) : Calls Tryd.prog 15 #[.string ⟨#[47, 97]⟩] w fun e w' => e = .returned (.string ⟨#[47]⟩) ∧ w' = w := by
  go_enter Tryd.func15, Tryd.ntmps15
  go_wp2_with fail
  refine (Tryd.strings_LastIndex_one ⟨#[47, 97]⟩ ⟨#[47]⟩ (by decide) (by decide) w).mono ?_
  rintro e w1 ⟨rfl, rfl⟩
  rw [show Lib.lastIndexByte ⟨#[47, 97]⟩ (((⟨#[47]⟩ : ByteArray)[0]'(by decide)).toNat : Int) = 0 from last_a]
  go_wp2_with fail
  go_ret
  exact ⟨by rfl, rfl⟩
set_option maxHeartbeats 4000000 in
set_option maxRecDepth 100000 in
theorem line_k (w : World) (hm : HasM w) : Calls Tryd.prog 5 #[.string ⟨#[47, 97, 47, 98]⟩] w fun e w' => ∃ v, e = .returned (.tuple #[v, .int .i64 0]) ∧ OwnS w.heap.size w' v [⟨#[47, 97, 47, 98]⟩, ⟨#[47, 97]⟩, ⟨#[47]⟩] ∧ Below w.heap.size w w' := by
  have H := Lib.hid hm
  clear hm
  go_enter Tryd.func5, Tryd.ntmps5
  go_wp2_with fail
  refine (path_k w H.out).mono ?_
  rintro e w1 ⟨rfl, hb⟩
  have B1 := Lib.hid hb
  have s1 := Lib.hid hb.size
  clear hb
  go_wp2_with fail
  refine wp_loop_rounds 3 ?_
  rw [rounds_succ]
  have O1 : Hid (OwnS w.heap.size w1 (.slice none 0 0) []) := World.ownsRow_nil _ _ _ _
  go_wp2_with (at_builtin; refine app_txt rfl _ _ rfl rfl O1.out s1.out ⟨#[47, 97, 47, 98]⟩ rfl (by decide) ?_)
  intro v2 w2 own2 g2
  have B2 := Lib.hid (B1.out.grown g2 s1.out (by intro k hk; cases hk))
  have O2 := Lib.hid own2
  clear own2 g2 O1 s1 B1
  go_wp2_with fail
  refine (above_ab w2).mono ?_
  rintro e w2 ⟨rfl, rfl⟩
  go_wp2_with fail
  rw [rounds_succ]
  go_wp2_with (at_builtin; refine app_txt rfl _ _ rfl rfl O2.out B2.out.size ⟨#[47, 97]⟩ rfl (by decide) ?_)
  intro v3 w3 own3 g3
  have B3 := Lib.hid (B2.out.grown g3 B2.out.size (fun k hk => (O2.out.lt k hk).1))
  have O3 := Lib.hid own3
  clear own3 g3 O2 B2
  go_wp2_with fail
  refine (above_a w3).mono ?_
  rintro e w3 ⟨rfl, rfl⟩
  go_wp2_with fail
  rw [rounds_succ]
  go_wp2_with (at_builtin; refine app_txt rfl _ _ rfl rfl O3.out B3.out.size ⟨#[47]⟩ rfl (by decide) ?_)
  intro v4 w4 own4 g4
  have B4 := Lib.hid (B3.out.grown g4 B3.out.size (fun k hk => (O3.out.lt k hk).1))
  have O4 := Lib.hid own4
  clear own4 g4 O3 B3
  go_wp2_with fail
  go_ret2
  exact ⟨v4, rfl, O4.out, B4.out⟩
end Go.Proofs.YtjlpcklcnabldaaDoor.L
