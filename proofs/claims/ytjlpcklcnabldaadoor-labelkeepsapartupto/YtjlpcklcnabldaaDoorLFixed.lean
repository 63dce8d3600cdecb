/-
  THE LAW fixed: it stands.
-/
import Derived.Test.YtjlpcklcnabldaaDoorLParseK
import Derived.Test.YtjlpcklcnabldaaDoorLLineK
namespace Go.Proofs.YtjlpcklcnabldaaDoor.L
open Go.RowKit
set_option maxHeartbeats 4000000 in
set_option maxRecDepth 100000 in
theorem fixed_ok (w : World) (hm : HasM w) : Calls Tryd.prog 4 #[] w fun e w' => e = .returned (.bool true) ∧ Below w.heap.size w w' := by
  have H := Lib.hid hm
  clear hm
  go_enter Tryd.func4, Tryd.ntmps4
  go_wp2_with fail
  refine (line_k w H.out).mono ?_
  rintro e w1 ⟨v1, rfl, own, hb⟩
  have B1 := Lib.hid hb
  have H1 := Lib.hid (H.out.below hb)
  have S1 := Lib.hid own.strs
  clear own hb H
  go_wp2_with fail
  refine (parse_k w1 H1.out).mono ?_
  rintro e w2 ⟨g, v, rfl, c1, c2, ⟨a2, cap2, rfl⟩, c4, hb⟩
  have B2 := Lib.hid (B1.out.trans (hb.mono B1.out.size))
  have S2 := Lib.hid (S1.out.below hb)
  have C2 := Lib.hid (And.intro c1 (And.intro c2 c4))
  clear hb B1 S1 H1 c1 c2 c4
  go_wp2_with fail
  refine (name_any ⟨#[97]⟩ w2).mono ?_
  rintro e w3 ⟨rfl, hb⟩
  rw [show nameB ⟨#[97]⟩ = true from rfl]
  have B3 := Lib.hid (B2.out.trans (hb.mono B2.out.size))
  have S3 := Lib.hid (S2.out.below hb)
  have c1 := (hb.cell (block_lt_of_cell C2.out.1)).trans C2.out.1
  have c2 := (hb.cell (block_lt_of_cell C2.out.2.1)).trans C2.out.2.1
  have c4 := (hb.cell (block_lt_of_cell C2.out.2.2)).trans C2.out.2.2
  clear hb B2 S2 C2
  obtain ⟨a, cap, hv, hlc, hcm⟩ := S3.out.len
  subst hv
  obtain ⟨b, off, rfl, d0⟩ := S3.out.at 0 (by simp)
  obtain ⟨b', off', e', d2⟩ := S3.out.at 2 (by simp)
  cases e'
  have d0' : w3.cell? ⟨b, off, none⟩ = some (.string ⟨#[47, 97, 47, 98]⟩) := d0
  have d2' : w3.cell? ⟨b, off + 2, none⟩ = some (.string ⟨#[47]⟩) := d2
  clear d0 d2
  go_wp2_with fail
  go_ret
  exact ⟨rfl, B3.out⟩
end Go.Proofs.YtjlpcklcnabldaaDoor.L
