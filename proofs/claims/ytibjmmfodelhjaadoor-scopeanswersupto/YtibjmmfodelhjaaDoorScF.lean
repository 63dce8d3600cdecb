/-
  What every law begins with: fixed.
-/
import Derived.Test.YtibjmmfodelhjaaDoorScY
namespace Go.Proofs.YtibjmmfodelhjaaDoor
open Go.RowKit Go.Maps
def tCpu : ByteArray := ⟨#[99, 112, 117]⟩
def tReqCpu : ByteArray := ⟨#[114, 101, 113, 117, 101, 115, 116, 115, 46, 99, 112, 117]⟩
def fxP : List Pt := [⟨⟨#[]⟩, [⟨tCpu, 5⟩, ⟨tCpu, 6⟩], []⟩]
theorem fx_es : obEs fxP = [(tCount.data.toList, 1000), (tReqCpu.data.toList, 5), (tReqCpu.data.toList, 6)] := by decide
theorem fx_nms : nmsOf (obEs fxP) = [tCount.data.toList, tReqCpu.data.toList] := by
  rw [← nms_of_perm (es := obEs fxP) (ss := [tCount.data.toList, tReqCpu.data.toList]) (by decide) (fun n => by rw [fx_es]; simp)]
  exact List.mergeSort_of_pairwise (by decide)
theorem fx_uses : usesE fxP = 0 ∧ usesL fxP = [⟨tCount, 1000⟩, ⟨tReqCpu, 11⟩] := by
  have hneg : onegB fxP = false := by decide
  have hov : ¬ Ov (obEs fxP) := by
    rintro ⟨n, hn⟩
    rw [fx_es] at hn
    simp only [Tot, maxA] at hn
    split at hn <;> split at hn <;> omega
  unfold usesE usesL
  rw [if_neg (by rw [hneg]; decide), if_neg hov, if_neg (by rw [hneg]; decide), if_neg hov]
  refine ⟨rfl, ?_⟩
  unfold outL
  rw [fx_nms]
  simp only [List.map_cons, List.map_nil]
  have e1 : Tot (obEs fxP) tCount.data.toList = 1000 := by rw [fx_es]; decide
  have e2 : Tot (obEs fxP) tReqCpu.data.toList = 11 := by rw [fx_es]; decide
  rw [e1, e2]
theorem fx_sz : PSz fxP := ⟨by rw [fx_es]; decide, by
  intro p hp
  simp only [fxP, List.mem_singleton] at hp
  subst hp
  refine ⟨fun x hx => ?_, fun x hx => by simp at hx⟩
  simp only [List.mem_cons, List.not_mem_nil, or_false] at hx
  rcases hx with rfl | rfl <;> exact ⟨by decide, by decide, by decide⟩⟩
def amC : List Am := [⟨tCpu, 5⟩, ⟨tCpu, 6⟩]
set_option maxHeartbeats 4000000 in
set_option maxRecDepth 100000 in
theorem fixed_any (w : World) (h : Nms w) : Calls Tryd.prog 9 #[] w fun e w' => e = .returned (.bool true) ∧ Below w.heap.size w w' := by
  have H := Lib.hid h
  clear h
  obtain ⟨X, hX⟩ : ∃ X, X = w.alloc (.cells #[.string ⟨#[99, 112, 117]⟩, .int .i64 5, .string ⟨#[99, 112, 117]⟩, .int .i64 6] 36) := ⟨_, rfl⟩
  obtain ⟨Y, hY⟩ : ∃ Y, Y = X.alloc (.cells #[.string ⟨#[]⟩, .slice (some ⟨w.heap.size, 0, none⟩) 2 2, .slice none 0 0] 33) := ⟨_, rfl⟩
  have O1 : OwnR kAm w.heap.size X (.slice (some ⟨w.heap.size, 0, none⟩) 2 2) amC := by rw [hX]; exact row_built w amC okAm rfl rfl (by decide)
  have XS : X.heap.size = w.heap.size + 1 := by rw [hX]; simp
  have BY : Below X.heap.size X Y := by rw [hY]; exact (Below.refl _ X).alloc (Nat.le_refl _) _
  have O2 : OwnR kPt X.heap.size Y (.slice (some ⟨X.heap.size, 0, none⟩) 1 1) [⟨⟨#[]⟩, ⟨some ⟨w.heap.size, 0, none⟩, 2, 2⟩, ⟨none, 0, 0⟩⟩] := by rw [hY]; exact row_built X _ okPt rfl rfl (by show 1 ≤ maxLen; decide)
  have OV : ObV Y (.slice none 0 0) (.slice (some ⟨w.heap.size + 1, 0, none⟩) 1 1) ⟨⟨#[]⟩, ⟨#[]⟩, [], 0, 0, fxP, 0⟩ := by
    refine ⟨Row.nil _, ⟨_, by rw [← XS]; exact O2.row okPt, rfl, fun k hk => ?_⟩⟩
    have : k = 0 := by simp [fxP] at hk; omega
    subst this
    exact ⟨rfl, (O1.row okAm).below BY, Row.nil _⟩
  have US := Lib.hid (uses_any _ _ _ Y OV fx_sz)
  have B0 : Hid (Below w.heap.size w Y ∧ Y.heap.size = w.heap.size + 2) := Lib.hid ⟨by
    have q : Below w.heap.size w X := by rw [hX]; exact (Below.refl _ w).alloc (Nat.le_refl _) _
    exact q.trans (BY.mono q.size), by rw [hY, hX]; simp⟩
  unfold Ob.val at US
  simp only at US
  rw [hY, hX] at US B0
  clear OV O2 BY O1 XS hY hX
  go_enter Tryd.func9, Tryd.ntmps9
  go_wp2_with fail
  refine US.out.mono ?_
  rintro e w1 ⟨ua, un, uc, rfl, hu, hb⟩
  have E := Lib.hid fx_uses
  rw [E.out.2] at hu
  obtain ⟨a', c', ee⟩ := hu.slice
  simp only [Value.slice.injEq] at ee
  have en : un = 2 := ee.2.1
  subst en
  clear ee
  have R := hu.row okAm
  obtain ⟨b, off, rfl, pc⟩ := R.at 1 (by decide)
  have c0 : w1.cell? ⟨b, off + 2, none⟩ = some (.string ⟨#[114, 101, 113, 117, 101, 115, 116, 115, 46, 99, 112, 117]⟩) := pc 0 _ rfl
  have c1 : w1.cell? ⟨b, off + 2 + 1, none⟩ = some (.int .i64 11) := pc 1 _ rfl
  have c1' : w1.cell? ⟨b, off + 3, none⟩ = some (.int .i64 11) := c1
  have B1 : Hid (Below w.heap.size w w1) := Lib.hid (B0.out.1.trans (hb.mono B0.out.1.size))
  have VA := Lib.hid (valid_any 5 9 w1 (H.out.below B1.out))
  have e0 : Hid (usesE fxP = 0) := Lib.hid E.out.1
  rw [e0.out]
  clear hu R pc hb US E B0
  go_wp2_with fail
  refine VA.out.mono ?_
  rintro e w2 ⟨rfl, hb2⟩
  have B2 : Hid (Below w.heap.size w w2) := Lib.hid (B1.out.trans (hb2.mono B1.out.size))
  clear hb2
  go_wp2_with fail
  go_ret
  exact ⟨rfl, B2.out⟩
end Go.Proofs.YtibjmmfodelhjaaDoor
