/-
  THE WALKS: fixed, written.
-/
import Derived.Test.YtmabmmmiljkeeaaTake
namespace Go.Proofs.Ytmabmmmiljkeeaa
open Go.RowKit

theorem form300 : form 300 = [172, 2] := by
  rw [form_high (by decide), form_low (by decide)]; rfl
theorem form3 : form 3 = [3] := by rw [form_low (by decide)]; rfl

set_option maxHeartbeats 2000000 in
theorem fixed_any (w : World) :
    Calls Try.prog 9 #[] w fun e w' => e = .returned (.bool true) ∧ Below w.heap.size w w' := by
  go_enter Try.func9, Try.ntmps9
  go_wp2_with fail
  refine (newWriter_any 64 w).mono ?_
  rintro e w1 ⟨rfl, hw, _, hb⟩
  have A1 : Aside (WAt w.heap.size w1 w.heap.size (.slice none 0 0) ⟨[], min (64 : Int).toNat 1048576, 0⟩ ∧ Below w.heap.size w w1) := ⟨hw, hb⟩
  clear hw hb
  go_wp2_with fail
  refine (wUint_any _ _ _ _ 300 w1 (by decide) A1.out.1).mono ?_
  rintro e w2 ⟨rfl, hl⟩
  have A2 : Aside (∃ v2, WAt w.heap.size w2 w.heap.size v2 ⟨[172, 2], 64, 0⟩ ∧ Below w.heap.size w w2) := by
    have hB := A1.out.2.trans (hl.below A1.out.1)
    obtain ⟨v2, h, _, _⟩ := hl
    refine ⟨v2, ?_, hB⟩
    rw [form300] at h; exact h
  clear hl A1
  go_wp2_with fail
  obtain ⟨v2, hw2⟩ := A2.out
  have A3 : Aside (WAt w.heap.size w2 w.heap.size v2 ⟨[172, 2], 64, 0⟩ ∧ Below w.heap.size w w2) := hw2
  clear hw2 A2
  refine (wText_any _ _ _ _ ⟨#[97, 98, 99]⟩ w2 (by decide) A3.out.1).mono ?_
  rintro e w3 ⟨rfl, hl⟩
  have A4 : Aside (∃ v3, WAt w.heap.size w3 w.heap.size v3 ⟨[172, 2, 3, 97, 98, 99], 64, 0⟩ ∧ Below w.heap.size w w3) := by
    have hB := A3.out.2.trans (hl.below A3.out.1)
    obtain ⟨v3, h, _, _⟩ := hl
    refine ⟨v3, ?_, hB⟩
    rw [show (⟨#[97, 98, 99]⟩ : ByteArray).size = 3 from rfl, form3] at h; exact h
  clear hl A3
  go_wp2_with fail
  obtain ⟨v3, hw3⟩ := A4.out
  have A5 : Aside (WAt w.heap.size w3 w.heap.size v3 ⟨[172, 2, 3, 97, 98, 99], 64, 0⟩ ∧ Below w.heap.size w w3) := hw3
  clear hw3 A4
  refine (wOut_any _ _ _ _ w3 A5.out.1).mono ?_
  rintro e w4 ⟨v4, rfl, ho, hb⟩
  have A6 : Aside (Own w3.heap.size w4 v4 [172, 2, 3, 97, 98, 99] ∧ Below w.heap.size w w4) := ⟨ho, A5.out.2.trans (hb.mono A5.out.2.size)⟩
  clear ho hb A5
  go_wp2_with fail
  refine (newReader_any v4 _ w4 A6.out.1.bytes (by decide)).mono ?_
  rintro e w5 ⟨g, rfl, hr, hg, hb⟩
  have hc := convT (A6.out.1.bytes.below hb)
  rw [show txt [172, 2, 3, 97, 98, 99] = ⟨#[172, 2, 3, 97, 98, 99]⟩ from rfl] at hc
  have A7 : Aside (RAt w5 g ⟨[172, 2, 3, 97, 98, 99], 0⟩ ∧ Below w.heap.size w w5 ∧ w.heap.size ≤ g) := ⟨hr, A6.out.2.trans (hb.mono A6.out.2.size), Nat.le_trans A6.out.2.size hg⟩
  clear hr hb hg A6
  go_wp2_with fail
  refine (rUint_any g _ w5 A7.out.1).mono ?_
  rintro e w6 ⟨rfl, hr⟩
  rw [show (RS.uint ⟨[172, 2, 3, 97, 98, 99], 0⟩).1 = 300 by decide +kernel]
  have A8 : Aside (RAt w6 g ⟨[3, 97, 98, 99], 0⟩ ∧ Below w.heap.size w w6) := by
    obtain ⟨h1, h2⟩ := hr
    refine ⟨?_, A7.out.2.1.trans (h2.below A7.out.2.1.size (fun x hx => by rw [hx]; exact A7.out.2.2))⟩
    exact h1
  clear hr
  go_wp2_with fail
  refine (rText_any g 3 _ w6 (by decide) (by decide) A8.out.1).mono ?_
  rintro e w7 ⟨rfl, hr⟩
  rw [show txt (RS.text ⟨[3, 97, 98, 99], 0⟩ 3).1 = ⟨#[97, 98, 99]⟩ by rfl]
  have A9 : Aside (RAt w7 g ⟨[], 0⟩ ∧ Below w.heap.size w w7) := by
    obtain ⟨h1, h2⟩ := hr
    refine ⟨?_, A8.out.2.trans (h2.below A8.out.2.size (fun x hx => by rw [hx]; exact A7.out.2.2))⟩
    exact h1
  clear hr
  go_wp2_with fail
  refine (rEnd_any g _ w7 A9.out.1).mono ?_
  rintro e w8 ⟨rfl, hr⟩
  rw [show (RS.fin ⟨[], 0⟩) = 0 by rfl]
  have A10 : Aside (Below w.heap.size w w8) := A9.out.2.trans (hr.2.below A9.out.2.size (fun x hx => by rw [hx]; exact A7.out.2.2))
  clear hr
  go_wp2_with fail
  go_ret
  exact ⟨rfl, A10.out⟩

/-- The slice v holds the values xs. -/
def Vals (w : World) (v : Value) (xs : List V) : Prop :=
  ∃ a cap, v = .slice a xs.length cap ∧ xs.length ≤ cap ∧ cap ≤ maxLen ∧ (a = none → cap = 0) ∧ (∀ k, k < xs.length → ∃ b off, a = some ⟨b, off, none⟩ ∧ ∀ j y, (xs.getD k ⟨0, 0, 0, ⟨#[]⟩⟩).cells[j]? = some y → w.cell? ⟨b, off + k * 4 + j, none⟩ = some y)
/-- The writer behind the values. -/
def wrt (xs : List V) : WS := xs.foldl WS.put ⟨[], 1048576, 0⟩
set_option maxHeartbeats 2000000 in
theorem written_any (v : Value) (xs : List V) (w : World) (hv : Vals w v xs) (hx : ∀ x ∈ xs, x.fits) :
    Calls Try.prog 17 #[v] w fun e w' => ∃ v', e = .returned (.tuple #[v', .bool ((wrt xs).e == 0)]) ∧
      Own w.heap.size w' v' (wrt xs).out ∧ Below w.heap.size w w' := by
  have Vv : Aside (Vals w v xs) := hv
  obtain ⟨a, cap, rfl, hlc, hcm, _, hc⟩ := hv
  unfold maxLen at hcm
  have Hx : Aside (∀ x ∈ xs, x.fits) := hx
  clear hc hx
  go_enter Try.func17, Try.ntmps17
  go_wp2_with fail
  refine (newWriter_any 1048576 w).mono ?_
  rintro e w1 ⟨rfl, hw, _, hb⟩
  have A1 : Aside (WAt w.heap.size w1 w.heap.size (.slice none 0 0) ⟨[], 1048576, 0⟩ ∧ Below w.heap.size w w1) := ⟨hw, hb⟩
  clear hw hb
  go_wp2_with fail
  go_loopg [5] xs.length (fun g si wr => ∃ (k : Nat) (u : Value), k ≤ xs.length ∧ g = xs.length - k ∧ si = .int .i64 k ∧ WAt w.heap.size wr w.heap.size u ((xs.take k).foldl WS.put ⟨[], 1048576, 0⟩) ∧ Below w.heap.size w wr)
  case atStart => exact ⟨0, _, Nat.zero_le _, rfl, rfl, A1.out.1, A1.out.2⟩
  case round =>
    obtain ⟨k, u, hk, hg, rfl, hw, hb⟩ := hrel
    have R : Aside (gk = xs.length - k ∧ WAt w.heap.size wr w.heap.size u ((xs.take k).foldl WS.put ⟨[], 1048576, 0⟩) ∧ Below w.heap.size w wr) := ⟨hg, hw, hb⟩
    clear hg hw hb
    by_cases hlt : k < xs.length
    · obtain ⟨a', cap', e', _, _, _, hc⟩ := Vv.out
      simp only [Value.slice.injEq, true_and] at e'
      obtain ⟨rfl, rfl⟩ := e'
      obtain ⟨b, off, rfl, hcell⟩ := hc k hlt
      clear hc
      obtain ⟨x, hxx⟩ : ∃ x, x = xs.getD k ⟨0, 0, 0, ⟨#[]⟩⟩ := ⟨_, rfl⟩
      rw [← hxx] at hcell
      have hmem : x ∈ xs := by rw [hxx]; simp [List.getD, hlt]
      have X : Aside (x = xs.getD k ⟨0, 0, 0, ⟨#[]⟩⟩ ∧ x.fits) := ⟨hxx, Hx.out x hmem⟩
      clear hxx hmem
      have p0 := hcell 0 _ rfl
      have p1 := hcell 1 _ rfl
      have p2 := hcell 2 _ rfl
      have p3 := hcell 3 _ rfl
      rw [← R.out.2.2.cell (block_lt_of_cell p0)] at p0
      rw [← R.out.2.2.cell (block_lt_of_cell p1)] at p1
      rw [← R.out.2.2.cell (block_lt_of_cell p2)] at p2
      rw [← R.out.2.2.cell (block_lt_of_cell p3)] at p3
      clear hcell
      rw [Nat.add_zero] at p0
      go_wp2_with fail
      refine (lay_any w.heap.size w.heap.size u _ x wr X.out.2 R.out.2.1).mono ?_
      rintro e w2 ⟨rfl, hl⟩
      have L : Aside (Laid w.heap.size w.heap.size u (((xs.take k).foldl WS.put ⟨[], 1048576, 0⟩).put x) wr w2) := hl
      clear hl p0 p1 p2 p3
      go_wp2_with fail
      go_roundg (xs.length - (k + 1))
      case measure => have := R.out.1; omega
      case rel =>
        have hB := R.out.2.2.trans (L.out.below R.out.2.1)
        obtain ⟨u', hw, _, _⟩ := L.out
        refine ⟨k + 1, u', by omega, rfl, by go_num, ?_, hB⟩
        rw [take_one xs k ⟨0, 0, 0, ⟨#[]⟩⟩ hlt, List.foldl_append, ← X.out.1]; exact hw
    · have R2 : Aside (WAt w.heap.size wr w.heap.size u (wrt xs) ∧ Below w.heap.size w wr) := by
        have := R.out.2; rw [List.take_of_length_le (by omega)] at this; exact this
      clear R
      go_wp2_with fail
      refine (wOut_any _ _ _ _ wr R2.out.1).mono ?_
      rintro e w2 ⟨v2, rfl, ho, hb⟩
      have A : Aside (Own w.heap.size w2 v2 (wrt xs).out ∧ Below w.heap.size w w2) := ⟨ho.mono R2.out.2.size, R2.out.2.trans (hb.mono R2.out.2.size)⟩
      clear ho hb
      go_wp2_with fail
      go_ret2
      refine ⟨v2, ?_, A.out.1, A.out.2⟩
      have e : (((wrt xs).e : Int) == 0) = ((wrt xs).e == 0) := by
        rw [Bool.eq_iff_iff, beq_iff_eq, beq_iff_eq]; omega
      exact congrArg (fun b => Ending.returned (.tuple #[v2, .bool b])) e
end Go.Proofs.Ytmabmmmiljkeeaa
