/-
  May, of every question; its laws.
-/
import Derived.Test.YtdhnpgciclbfeaaGreatDoorAcW
namespace Go.Proofs.YtdhnpgciclbfeaaGreatDoor
open Go.RowKit
namespace Ac
def rootT : ByteArray := ⟨#[114, 111, 111, 116]⟩
/-- What May tells. -/
def MayP (D : DataW Unit) (s : ByteArray) (v : Int) (path : ByteArray) : Prop :=
  (s = rootT ∧ vbB v = true ∧ L.splitE path = 0) ∨ (s ≠ rootT ∧ ∃ x, InD D x ∧ isB x.s x.v s v = true ∧ x.p ∈ lineP path)
theorem lineP_good {ts : List ByteArray} (hg : L.Good ts) : lineP (L.pth ts) = L.lineOf ts := by unfold lineP; rw [L.splitO_good hg]
theorem mem_line (ts : List ByteArray) (x : ByteArray) : x ∈ L.lineOf ts ↔ ∃ k, k ≤ ts.length ∧ x = L.pth (ts.take k) := by
  unfold L.lineOf L.lineTo
  simp only [List.mem_map, List.mem_range]
  constructor
  · rintro ⟨j, hj, rfl⟩
    exact ⟨ts.length - j, by omega, rfl⟩
  · rintro ⟨k, hk, rfl⟩
    exact ⟨ts.length - k, by omega, by rw [show ts.length - (ts.length - k) = k by omega]⟩
variable {D : DataW Unit} {s : ByteArray} {v : Int}
/-- What may be done at a path above may be done below it. -/
theorem may_down {ts : List ByteArray} (hg : L.Good ts) {l : ByteArray} (hl : l ∈ L.lineOf ts) (h : MayP D s v l) : MayP D s v (L.pth ts) := by
  obtain ⟨k, hk, rfl⟩ := (mem_line ts l).1 hl
  rcases h with ⟨a, b, _⟩ | ⟨a, x, b, c, d⟩
  · exact Or.inl ⟨a, b, by unfold L.splitE; rw [L.splitO_good hg]; rfl⟩
  · refine Or.inr ⟨a, x, b, c, ?_⟩
    rw [lineP_good (hg.take k), mem_line] at d
    rw [lineP_good hg, mem_line]
    obtain ⟨j, hj, e⟩ := d
    rw [List.length_take] at hj
    refine ⟨j, by omega, ?_⟩
    rw [e, List.take_take, Nat.min_eq_left (by omega)]
/-- With a verb all that it includes. -/
theorem may_less {l : ByteArray} (h : MayP D s v l) (hv : 1 ≤ v) : MayP D s (v - 1) l := by
  have vb : vbB v = true → vbB (v - 1) = true := fun h => by
    unfold vbB at h ⊢
    simp only [Bool.and_eq_true, decide_eq_true_iff] at h ⊢
    omega
  rcases h with ⟨a, b, c⟩ | ⟨a, x, b, c, d⟩
  · exact Or.inl ⟨a, vb b, c⟩
  · refine Or.inr ⟨a, x, b, ?_, d⟩
    unfold isB at c ⊢
    simp only [Bool.and_eq_true, decide_eq_true_iff] at c ⊢
    exact ⟨c.1, vb c.2.1, by omega⟩
theorem may_root {ts : List ByteArray} (hg : L.Good ts) (h0 : 0 ≤ v) (h3 : v ≤ 3) : MayP D rootT v (L.pth ts) :=
  Or.inl ⟨rfl, by unfold vbB; simp [h0, h3], by unfold L.splitE; rw [L.splitO_good hg]; rfl⟩
theorem may_none {p : ByteArray} (h : L.splitO p = none) : ¬ MayP D s v p := by
  rintro (⟨_, _, c⟩ | ⟨_, x, _, _, d⟩)
  · rw [splitE_no h] at c; simp at c
  · unfold lineP at d; rw [h] at d; simp at d
set_option maxHeartbeats 4000000 in
set_option maxRecDepth 100000 in
theorem may_any (s : ByteArray) (v : Int) (path : ByteArray) (w : World) (t b nn : Nat) (D : DataW Unit) (H : Ta w t b nn D) :
    Calls Tryz.prog 16 #[.pointer (some ⟨t, 0, none⟩), .string s, .int .i64 v, .string path] w fun e w' => ∃ r : Bool, e = .returned (.bool r) ∧ (r = true ↔ MayP D s v path) ∧ Below w.heap.size w w' := by
  by_cases hs : s = rootT
  · subst hs
    have ge : (rootT.toList == [114, 111, 111, 116]) = true := by rw [ByteArray.toList_eq]; rfl
    have IV := Lib.hid (isVerb_any v w)
    obtain ⟨pe, hpe⟩ : ∃ pe, pe = L.splitE path := ⟨_, rfl⟩
    have PA := Lib.hid (L.path_any path w H.hm)
    rw [← hpe] at PA
    have EP := Lib.hid hpe
    clear hpe H
    unfold rootT at ge ⊢
    go_enter Tryz.func16, Tryz.ntmps16
    go_wp2_with fail
    refine IV.out.mono ?_
    rintro e w1 ⟨rfl, hw1⟩
    subst hw1
    cases hv : vbB v with
    | false =>
      go_wp2_with fail
      go_ret
      refine ⟨false, rfl, ⟨fun h => by simp at h, fun h => ?_⟩, Below.refl _ _⟩
      rcases h with ⟨_, h, _⟩ | ⟨h, _⟩
      · rw [hv] at h; simp at h
      · exact absurd rfl h
    | true =>
      go_wp2_with fail
      refine PA.out.mono ?_
      rintro e w2 ⟨rfl, hb⟩
      have B2 := Lib.hid hb
      clear hb
      by_cases h0 : pe = 0
      · have g0 : (pe == 0) = true := by rw [beq_iff_eq]; exact h0
        go_wp2_with fail
        go_ret
        exact ⟨true, rfl, ⟨fun _ => Or.inl ⟨rfl, hv, by rw [← EP.out]; exact h0⟩, fun _ => rfl⟩, B2.out⟩
      · have g0 : (pe == 0) = false := by rw [beq_eq_false_iff_ne]; exact h0
        go_wp2_with fail
        go_ret
        refine ⟨false, rfl, ⟨fun h => by simp at h, fun h => ?_⟩, B2.out⟩
        rcases h with ⟨_, _, h⟩ | ⟨h, _⟩
        · rw [EP.out] at h0; exact absurd h h0
        · exact absurd rfl h
  · have ge : (s.toList == [114, 111, 111, 116]) = false := by
      have q := teq_no hs
      rw [show rootT.toList = [114, 111, 111, 116] by rw [ByteArray.toList_eq]; rfl] at q
      exact q
    have WH := Lib.hid (why_any s v path w t b nn D H)
    have HS := Lib.hid hs
    clear hs H
    go_enter Tryz.func16, Tryz.ntmps16
    go_wp2_with fail
    refine WH.out.mono ?_
    rintro e w1 ⟨xs, hxs, rfl, hb⟩
    have B1 := Lib.hid (And.intro hxs hb)
    obtain ⟨fo, hfo⟩ : ∃ fo, fo = (fol (lineP path) xs).1 := ⟨_, rfl⟩
    obtain ⟨⟨zp, zn, zs, zv⟩, hzo⟩ : ∃ zo, zo = (fol (lineP path) xs).2 := ⟨_, rfl⟩
    have FO := Lib.hid hfo
    rw [← hfo, ← hzo]
    unfold Bd.val
    clear hxs hb hfo hzo WH
    go_wp2_with fail
    go_ret
    refine ⟨fo, rfl, ?_, B1.out.2.trans ((Below.refl _ w1).alloc (Nat.le_refl _) _ |>.mono B1.out.2.size)⟩
    rw [FO.out, fol_yes]
    constructor
    · rintro ⟨x, hx, hc⟩
      obtain ⟨h1, h2⟩ := (B1.out.1 x).1 hx
      exact Or.inr ⟨HS.out, x, h1, h2, (Lib.containsS_iff _ _).1 hc⟩
    · rintro (⟨h, _⟩ | ⟨_, x, h1, h2, h3⟩)
      · exact absurd h HS.out
      · exact ⟨x, (B1.out.1 x).2 ⟨h1, h2⟩, (Lib.containsS_iff _ _).2 h3⟩
end Ac
end Go.Proofs.YtdhnpgciclbfeaaGreatDoor
