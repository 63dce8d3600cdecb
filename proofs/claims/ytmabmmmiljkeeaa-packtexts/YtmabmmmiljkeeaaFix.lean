/-
  THE WALK of fixed.
-/
import Derived.Test.YtmabmmmiljkeeaaHand
namespace Go.Proofs.Ytmabmmmiljkeeaa
open Go.RowKit

theorem form300 : form 300 = [172, 2] := by
  rw [form_high (by decide), form_low (by decide)]; rfl
theorem form3 : form 3 = [3] := by rw [form_low (by decide)]; rfl

set_option maxHeartbeats 2000000 in
theorem fixed_any (w : World) :
    Calls Try.prog 9 #[] w fun e w' => e = .returned (.bool true) ∧ Below w.heap.size w w' := by
  go_enter Try.func9, Try.ntmps9
  go_wp2_with fail
  refine (newWriter_any 64 w).mono ?_
  rintro e w1 ⟨rfl, hw, _, hb⟩
  have A1 : Aside (WAt w.heap.size w1 w.heap.size (.slice none 0 0) ⟨[], min (64 : Int).toNat 1048576, 0⟩ ∧ Below w.heap.size w w1) := ⟨hw, hb⟩
  clear hw hb
  go_wp2_with fail
  refine (wUint_any _ _ _ _ 300 w1 (by decide) A1.out.1).mono ?_
  rintro e w2 ⟨rfl, hl⟩
  have A2 : Aside (∃ v2, WAt w.heap.size w2 w.heap.size v2 ⟨[172, 2], 64, 0⟩ ∧ Below w.heap.size w w2) := by
    have hB := A1.out.2.trans (hl.below A1.out.1)
    obtain ⟨v2, h, _, _⟩ := hl
    refine ⟨v2, ?_, hB⟩
    rw [form300] at h; exact h
  clear hl A1
  go_wp2_with fail
  obtain ⟨v2, hw2⟩ := A2.out
  have A3 : Aside (WAt w.heap.size w2 w.heap.size v2 ⟨[172, 2], 64, 0⟩ ∧ Below w.heap.size w w2) := hw2
  clear hw2 A2
  refine (wText_any _ _ _ _ ⟨#[97, 98, 99]⟩ w2 (by decide) A3.out.1).mono ?_
  rintro e w3 ⟨rfl, hl⟩
  have A4 : Aside (∃ v3, WAt w.heap.size w3 w.heap.size v3 ⟨[172, 2, 3, 97, 98, 99], 64, 0⟩ ∧ Below w.heap.size w w3) := by
    have hB := A3.out.2.trans (hl.below A3.out.1)
    obtain ⟨v3, h, _, _⟩ := hl
    refine ⟨v3, ?_, hB⟩
    rw [show (⟨#[97, 98, 99]⟩ : ByteArray).size = 3 from rfl, form3] at h; exact h
  clear hl A3
  go_wp2_with fail
  obtain ⟨v3, hw3⟩ := A4.out
  have A5 : Aside (WAt w.heap.size w3 w.heap.size v3 ⟨[172, 2, 3, 97, 98, 99], 64, 0⟩ ∧ Below w.heap.size w w3) := hw3
  clear hw3 A4
  refine (wOut_any _ _ _ _ w3 A5.out.1).mono ?_
  rintro e w4 ⟨v4, rfl, ho, hb⟩
  have A6 : Aside (Own w3.heap.size w4 v4 [172, 2, 3, 97, 98, 99] ∧ Below w.heap.size w w4) := ⟨ho, A5.out.2.trans (hb.mono A5.out.2.size)⟩
  clear ho hb A5
  go_wp2_with fail
  refine (newReader_any v4 _ w4 A6.out.1.bytes (by decide)).mono ?_
  rintro e w5 ⟨g, rfl, hr, hg, hb⟩
  have hc := convT (A6.out.1.bytes.below hb)
  rw [show txt [172, 2, 3, 97, 98, 99] = ⟨#[172, 2, 3, 97, 98, 99]⟩ from rfl] at hc
  have A7 : Aside (RAt w5 g ⟨[172, 2, 3, 97, 98, 99], 0⟩ ∧ Below w.heap.size w w5 ∧ w.heap.size ≤ g) := ⟨hr, A6.out.2.trans (hb.mono A6.out.2.size), Nat.le_trans A6.out.2.size hg⟩
  clear hr hb hg A6
  go_wp2_with fail
  refine (rUint_any g _ w5 A7.out.1).mono ?_
  rintro e w6 ⟨rfl, hr⟩
  rw [show (RS.uint ⟨[172, 2, 3, 97, 98, 99], 0⟩).1 = 300 by decide +kernel]
  have A8 : Aside (RAt w6 g ⟨[3, 97, 98, 99], 0⟩ ∧ Below w.heap.size w w6) := by
    obtain ⟨h1, h2⟩ := hr
    refine ⟨?_, A7.out.2.1.trans (h2.below A7.out.2.1.size (fun x hx => by rw [hx]; exact A7.out.2.2))⟩
    exact h1
  clear hr
  go_wp2_with fail
  refine (rText_any g 3 _ w6 (by decide) (by decide) A8.out.1).mono ?_
  rintro e w7 ⟨rfl, hr⟩
  rw [show txt (RS.text ⟨[3, 97, 98, 99], 0⟩ 3).1 = ⟨#[97, 98, 99]⟩ by rfl]
  have A9 : Aside (RAt w7 g ⟨[], 0⟩ ∧ Below w.heap.size w w7) := by
    obtain ⟨h1, h2⟩ := hr
    refine ⟨?_, A8.out.2.trans (h2.below A8.out.2.size (fun x hx => by rw [hx]; exact A7.out.2.2))⟩
    exact h1
  clear hr
  go_wp2_with fail
  refine (rEnd_any g _ w7 A9.out.1).mono ?_
  rintro e w8 ⟨rfl, hr⟩
  rw [show (RS.fin ⟨[], 0⟩) = 0 by rfl]
  have A10 : Aside (Below w.heap.size w w8) := A9.out.2.trans (hr.2.below A9.out.2.size (fun x hx => by rw [hx]; exact A7.out.2.2))
  clear hr
  go_wp2_with fail
  go_ret
  exact ⟨rfl, A10.out⟩

end Go.Proofs.Ytmabmmmiljkeeaa
