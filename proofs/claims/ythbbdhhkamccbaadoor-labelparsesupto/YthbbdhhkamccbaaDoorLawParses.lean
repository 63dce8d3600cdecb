/-
  THE WALK of LabelParses.
-/
import Derived.Test.YthbbdhhkamccbaaDoorRefPs
import Derived.Test.YthbbdhhkamccbaaDoorRefRd
namespace Go.Proofs.YthbbdhhkamccbaaDoor
open Go.RowKit
set_option maxHeartbeats 8000000 in
set_option maxRecDepth 100000 in
theorem labelParses_of (RE0 : ∀ (t : ByteArray) (W : World), t.size ≤ 1048576 → Calls Tryd.prog 41 #[.string t] W fun e w' => RdR W.heap.size w' (rr t.data.toList) e ∧ Below W.heap.size W w')
    (t : ByteArray) (w : World) (hm : HasM w) (ht : t.size ≤ 1048576) :
    Calls Tryd.prog 7 #[.string t] w fun e w' => e = .returned (.bool true) ∧ Below w.heap.size w w' := by
  have H := Lib.hid hm
  have FX := Lib.hid (fixed_ok w hm)
  have PA := Lib.hid fun W h => parse_any t W h (by omega)
  have QA := Lib.hid fun W => refParse_of RE0 t W ht
  clear hm ht RE0
  go_enter Tryd.func7, Tryd.ntmps7
  go_wp2_with fail
  refine FX.out.mono ?_
  rintro r w1 ⟨rfl, hb⟩
  have B1 := Lib.hid hb
  clear hb FX
  go_wp2_with fail
  refine (PA.out w1 (H.out.below B1.out)).mono ?_
  rintro e w2 ⟨hr, hb⟩
  have B2 := Lib.hid (B1.out.trans (hb.mono B1.out.size))
  clear hb PA
  cases hp : ps3 t.data.toList with
  | none =>
    rw [hp] at hr
    have he : e = _ := hr
    subst he
    have QN : Hid (Calls Tryd.prog 22 #[.string t] w2 fun e w' => e = .returned (.tuple #[.slice none 0 0, .int .i64 43]) ∧ Below w2.heap.size w2 w') := Lib.hid (by
      have h := QA.out w2
      rw [hp] at h
      exact h)
    clear hr hp QA
    go_wp2_with fail
    refine QN.out.mono ?_
    rintro e w3 ⟨rfl, hb⟩
    have B3 := Lib.hid (B2.out.trans (hb.mono B2.out.size))
    have SM := Lib.hid (sameTerms_yes (.slice none 0 0) (.slice none 0 0) [] [] w3 (trms_nil w3) (trms_nil w3) rfl)
    clear hb QN
    go_wp2_with fail
    refine SM.out.mono ?_
    rintro e w4 ⟨rfl, hb⟩
    have B4 := Lib.hid (B3.out.trans (hb.mono B3.out.size))
    clear hb SM
    go_wp2_with fail
    go_ret
    exact ⟨rfl, B4.out⟩
  | some X =>
    rw [hp] at hr
    obtain ⟨v2, ys, rfl, h3, hu⟩ := hr
    obtain ⟨hok, hpr⟩ := ps3_pr hp
    have TR := Lib.hid (parsed_trms hu h3 hok).1
    have QN : Hid (Calls Tryd.prog 22 #[.string t] w2 fun e w' => (∃ v zs, e = .returned (.tuple #[v, .int .i64 0]) ∧ zs.map t3 = X ∧ Trms w' v zs) ∧ Below w2.heap.size w2 w') := Lib.hid (by
      have h := QA.out w2
      rw [hp] at h
      exact h)
    have H3 := Lib.hid h3
    clear hp QA h3 hu hok hpr
    go_wp2_with fail
    refine QN.out.mono ?_
    rintro e w3 ⟨⟨v3, zs, rfl, h3, htr⟩, hb⟩
    have B3 := Lib.hid (B2.out.trans (hb.mono B2.out.size))
    have SM := Lib.hid (sameTerms_yes v2 v3 ys zs w3 (TR.out.below hb) htr (by rw [H3.out, h3]))
    clear hb QN h3 htr
    go_wp2_with fail
    refine SM.out.mono ?_
    rintro e w4 ⟨rfl, hb⟩
    have B4 := Lib.hid (B3.out.trans (hb.mono B3.out.size))
    clear hb SM
    go_wp2_with fail
    go_ret
    exact ⟨rfl, B4.out⟩
theorem labelParses_walk (t : ByteArray) (w : World) (hm : HasM w) (ht : t.size ≤ 1048576) :
    Calls Tryd.prog 7 #[.string t] w fun e w' => e = .returned (.bool true) ∧ Below w.heap.size w w' :=
  labelParses_of refRead_any t w hm ht
end Go.Proofs.YthbbdhhkamccbaaDoor
