/-
  The law's fixed examples: known.
-/
import Derived.Test.YtfkoiehnkelpoaaDoorWtI
namespace Go.Proofs.YtfkoiehnkelpoaaDoor
open Go.RowKit
namespace Wt
def e6 : Ev := ⟨6, 3, false, ⟨#[47, 97]⟩, ⟨#[120]⟩⟩
def e7 : Ev := ⟨7, 3, false, ⟨#[47, 97]⟩, ⟨#[121]⟩⟩
def e8 : Ev := ⟨7, 3, true, ⟨#[47, 98]⟩, ⟨#[122]⟩⟩
theorem r6 : rightB e6 = true := by kernel_rfl
theorem r7 : rightB e7 = true := by kernel_rfl
theorem r8 : rightB e8 = true := by kernel_rfl
theorem p1 : pushE ⟨5, 5, []⟩ [e6] = 0 := by
  unfold pushE
  rw [if_neg, if_neg (by decide)]
  rintro (q | q | q)
  · exact absurd q (by decide)
  · exact absurd q (by decide)
  · exact q fun e he => by rw [List.mem_singleton.1 he]; exact ⟨rfl, r6⟩
theorem p2 : pushE ⟨5, 6, [e6]⟩ [e7, e8] = 0 := by
  unfold pushE
  rw [if_neg, if_neg (by decide)]
  rintro (q | q | q)
  · exact absurd q (by decide)
  · exact absurd q (by decide)
  · refine q fun e he => ?_
    rcases List.mem_cons.1 he with rfl | he
    · exact ⟨rfl, r7⟩
    · rw [List.mem_singleton.1 he]; exact ⟨rfl, r8⟩
theorem p3 : pushE ⟨5, 7, [e6, e7, e8]⟩ [e7] = 1 := by
  unfold pushE
  rw [if_pos]
  exact .inr (.inr fun q => absurd (q e7 (List.mem_singleton.2 rfl)).1 (by decide))
theorem in1 : inL ⟨5, 7, [e6, e7, e8]⟩ 5 ⟨#[47]⟩ = [e6, e7, e8] := by kernel_rfl
theorem in2 : inL ⟨5, 7, [e6, e7, e8]⟩ 5 ⟨#[47, 98]⟩ = [e8] := by kernel_rfl
theorem k1 : sinE ⟨5, 7, [e6, e7, e8]⟩ 5 ⟨#[47]⟩ 2 = 0 := by kernel_rfl
theorem k2 : sinE ⟨5, 7, [e6, e7, e8]⟩ 5 ⟨#[47, 98]⟩ 1 = 0 := by kernel_rfl
theorem k3 : sinL ⟨5, 7, [e6, e7, e8]⟩ 5 ⟨#[47]⟩ 2 = [e6] := by unfold sinL; rw [in1]; kernel_rfl
theorem k4 : sinV ⟨5, 7, [e6, e7, e8]⟩ 5 ⟨#[47]⟩ 2 = 6 := by unfold sinV; rw [in1]; kernel_rfl
theorem k5 : sinL ⟨5, 7, [e6, e7, e8]⟩ 5 ⟨#[47, 98]⟩ 1 = [e8] := by unfold sinL; rw [in2]; kernel_rfl
theorem k6 : sinV ⟨5, 7, [e6, e7, e8]⟩ 5 ⟨#[47, 98]⟩ 1 = 7 := by unfold sinV; rw [in2]; kernel_rfl
theorem lit1 (W : World) (e : Ev) : OwnR kE W.heap.size (W.alloc (.cells (kE.c e).toArray 33)) (.slice (some ⟨W.heap.size, 0, none⟩) 1 1) [e] := row_built W [e] okE (by rw [cellsR_single]) rfl (by show 1 ≤ _; decide)
set_option maxHeartbeats 8000000 in
set_option maxRecDepth 100000 in
theorem known_any (m : Ev) (w : World) (hG : Gl m w) : Calls Tryd.prog 9 #[] w fun e w' => e = .returned (.bool true) ∧ Below w.heap.size w w' := by
  have G := Lib.hid hG
  have NW := Lib.hid (Hl.new (Below.refl w.heap.size w) 5)
  have ON : Hid (∀ (W : World) (x : Int) (b : Bool) (p n : ByteArray), Calls Tryd.prog 24 #[.int .i64 x, .bool b, .string p, .string n] W fun e w' => e = .returned (.agg #[.int .i64 x, .int .i64 3, .bool b, .string p, .string n]) ∧ Below W.heap.size W w') := Lib.hid fun W x b p n => one_any x b p n W
  have AL : Hid (∀ (W : World) (o : Obj), Below W.heap.size W (W.alloc o)) := Lib.hid fun W o => (below_alR W).out o
  clear hG
  go_enter Tryd.func9, Tryd.ntmps9
  go_wp2_with fail
  refine NW.out.mono ?_
  rintro e w1 ⟨rfl, h1, -⟩
  obtain ⟨g, hg⟩ : ∃ g, g = w.heap.size := ⟨_, rfl⟩
  have h1' : Hl w w1 g (.slice none 0 0) ⟨5, 5, []⟩ := by rw [hg]; exact h1
  have H1 := Lib.hid h1'
  have LW := Lib.hid (low_any w1 g _ _ h1'.h)
  have HW := Lib.hid (high_any w1 g _ _ h1'.h)
  rw [← hg]
  clear h1 h1' NW
  have hg' := hg.symm
  clear hg
  go_wp2_with fail
  refine LW.out.mono ?_
  rintro e w1' ⟨rfl, rfl⟩
  go_wp2_with fail
  refine HW.out.mono ?_
  rintro e w1'' ⟨rfl, rfl⟩
  clear LW HW
  go_wp2_with fail
  refine (ON.out _ _ _ _ _).mono ?_
  rintro e w2 ⟨rfl, hb2⟩
  have H2 := Lib.hid (H1.out.below hb2)
  clear H1 hb2
  have PU := Lib.hid ((H2.out.below (AL.out w2 (.cells (kE.c e6).toArray 33))).push (l := [e6]) (u := .slice (some ⟨w2.heap.size, 0, none⟩) 1 1) G.out ((lit1 w2 e6).row okE) (H2.out.ap (Nat.le_refl _) (lit1 w2 e6)))
  rw [p1] at PU
  go_wp2_with fail
  refine PU.out.mono ?_
  rintro e w3 ⟨rfl, v3, s3, h3, -, -, -, hk⟩
  have es3 := (hk (by first | rfl | trivial)).small H2.out.ok (fun e he => by rw [List.mem_singleton.1 he]; rfl) (by decide)
  subst es3
  have H3 : Hid (Hl w w3 g v3 ⟨5, 6, [e6]⟩) := Lib.hid h3
  clear h3 hk PU H2
  go_wp2_with fail
  refine (ON.out _ _ _ _ _).mono ?_
  rintro e w4 ⟨rfl, hb4⟩
  have H4 := Lib.hid (H3.out.below hb4)
  clear H3 hb4
  go_wp2_with fail
  refine (ON.out _ _ _ _ _).mono ?_
  rintro e w5 ⟨rfl, hb5⟩
  have H5 := Lib.hid (H4.out.below hb5)
  clear H4 hb5
  have R5 : Hid (OwnR kE w5.heap.size (w5.alloc (.cells ((kE.c e7) ++ (kE.c e8)).toArray 33)) (.slice (some ⟨w5.heap.size, 0, none⟩) 2 2) [e7, e8]) := Lib.hid (row_built w5 [e7, e8] okE rfl rfl (by decide))
  have PU := Lib.hid ((H5.out.below (AL.out w5 (.cells ((kE.c e7) ++ (kE.c e8)).toArray 33))).push (l := [e7, e8]) (u := .slice (some ⟨w5.heap.size, 0, none⟩) 2 2) G.out (R5.out.row okE) (H5.out.ap (Nat.le_refl _) R5.out))
  rw [p2] at PU
  go_wp2_with fail
  refine PU.out.mono ?_
  rintro e w6 ⟨rfl, v6, s6, h6, -, -, -, hk⟩
  have es6 := (hk (by first | rfl | trivial)).small H5.out.ok (fun e he => by
    rcases List.mem_cons.1 he with rfl | he
    · rfl
    · rw [List.mem_singleton.1 he]; rfl) (by decide)
  subst es6
  have H6 : Hid (Hl w w6 g v6 ⟨5, 7, [e6, e7, e8]⟩) := Lib.hid h6
  clear h6 hk PU H5 R5
  go_wp2_with fail
  refine (ON.out _ _ _ _ _).mono ?_
  rintro e w7 ⟨rfl, hb7⟩
  have H7 := Lib.hid (H6.out.below hb7)
  clear H6 hb7
  have PU := Lib.hid ((H7.out.below (AL.out w7 (.cells (kE.c e7).toArray 33))).push (l := [e7]) (u := .slice (some ⟨w7.heap.size, 0, none⟩) 1 1) G.out ((lit1 w7 e7).row okE) (H7.out.ap (Nat.le_refl _) (lit1 w7 e7)))
  rw [p3] at PU
  go_wp2_with fail
  refine PU.out.mono ?_
  rintro e w8 ⟨rfl, v8, s8, h8, -, -, hs, -⟩
  have es8 := hs (by first | decide | trivial)
  subst es8
  have H8 : Hid (Hl w w8 g v8 ⟨5, 7, [e6, e7, e8]⟩) := Lib.hid h8
  have S1 := Lib.hid (since_any w8 g v8 _ 5 ⟨#[47]⟩ 2 (G.out.hm.below h8.be) h8.h h8.ok)
  rw [k1] at S1
  clear h8 hs PU H7
  go_wp2_with fail
  refine S1.out.mono ?_
  rintro e w9 ⟨a9, n9, c9, x9, rfl, hb9, -, hs9⟩
  obtain ⟨o9, e9⟩ := hs9 k1
  rw [k3] at o9
  rw [k4] at e9
  subst e9
  have H9 := Lib.hid (And.intro (H8.out.below hb9) o9)
  have S2 := Lib.hid (since_any w9 g v8 _ 5 ⟨#[47, 98]⟩ 1 (G.out.hm.below H9.out.1.be) H9.out.1.h H9.out.1.ok)
  rw [k2] at S2
  clear hb9 hs9 o9 H8 S1
  go_wp2_with fail
  refine S2.out.mono ?_
  rintro e w10 ⟨a10, n10, c10, x10, rfl, hb10, -, hs10⟩
  obtain ⟨o10, e10⟩ := hs10 k2
  rw [k5] at o10
  rw [k6] at e10
  subst e10
  have H10 : Hid (Below w.heap.size w w10 ∧ Row kE w10 (.slice a9 n9 c9) [e6] ∧ Row kE w10 (.slice a10 n10 c10) [e8]) := Lib.hid ⟨H9.out.1.be.trans (hb10.mono H9.out.1.be.size), (H9.out.2.row okE).below hb10, o10.row okE⟩
  clear hb10 hs10 o10 H9 S2
  go_wp2_with fail
  refine (ON.out _ _ _ _ _).mono ?_
  rintro e w11 ⟨rfl, hb11⟩
  have H11 : Hid (Below w.heap.size w (w11.alloc (.cells (kE.c e6).toArray 33)) ∧ Row kE (w11.alloc (.cells (kE.c e6).toArray 33)) (.slice a9 n9 c9) [e6] ∧ Row kE (w11.alloc (.cells (kE.c e6).toArray 33)) (.slice a10 n10 c10) [e8]) := Lib.hid (by
    have b := hb11.alloc hb11.size (.cells (kE.c e6).toArray 33)
    exact ⟨H10.out.1.trans (b.mono H10.out.1.size), H10.out.2.1.below b, H10.out.2.2.below b⟩)
  clear hb11 H10
  have SM := Lib.hid (same_yes (.slice a9 n9 c9) (.slice (some ⟨w11.heap.size, 0, none⟩) 1 1) [e6] _ H11.out.2.1 ((lit1 w11 e6).row okE))
  go_wp2_with fail
  refine SM.out.mono ?_
  rintro e w12 ⟨rfl, hb12⟩
  have H12 : Hid (Below w.heap.size w w12 ∧ Row kE w12 (.slice a10 n10 c10) [e8]) := Lib.hid ⟨H11.out.1.trans (hb12.mono H11.out.1.size), H11.out.2.2.below hb12⟩
  clear hb12 H11 SM
  go_wp2_with fail
  refine (ON.out _ _ _ _ _).mono ?_
  rintro e w13 ⟨rfl, hb13⟩
  have H13 : Hid (Below w.heap.size w (w13.alloc (.cells (kE.c e8).toArray 33)) ∧ Row kE (w13.alloc (.cells (kE.c e8).toArray 33)) (.slice a10 n10 c10) [e8]) := Lib.hid (by
    have b := hb13.alloc hb13.size (.cells (kE.c e8).toArray 33)
    exact ⟨H12.out.1.trans (b.mono H12.out.1.size), H12.out.2.below b⟩)
  clear hb13 H12
  have SM := Lib.hid (same_yes (.slice a10 n10 c10) (.slice (some ⟨w13.heap.size, 0, none⟩) 1 1) [e8] _ H13.out.2 ((lit1 w13 e8).row okE))
  go_wp2_with fail
  refine SM.out.mono ?_
  rintro e w14 ⟨rfl, hb14⟩
  have B := Lib.hid (H13.out.1.trans (hb14.mono H13.out.1.size))
  clear hb14
  go_wp2_with fail
  go_ret
  exact ⟨rfl, B.out⟩
end Wt
end Go.Proofs.YtfkoiehnkelpoaaDoor
