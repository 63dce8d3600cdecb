/-
  The document's at, exactly.
-/
import Derived.Test.YtlbnmafopfljcaaDoorAkC
namespace Go.Proofs.YtlbnmafopfljcaaDoor
open Go.RowKit Go.Sort
namespace Ac
/-- Where it stands; -1: nowhere. -/
def atI (M : List Bv) (p n : ByteArray) : Int := match M.findIdx? (fun y => decide (y.1.p = p ∧ y.1.n = n)) with
  | some j => (j : Int)
  | none => -1
theorem at_hit {M : List Bv} {p n : ByteArray} {i : Nat} (hi : i < M.length) (h : (M.getD i Bv.z).1.p = p ∧ (M.getD i Bv.z).1.n = n) (hq : ∀ j, j < i → ¬ ((M.getD j Bv.z).1.p = p ∧ (M.getD j Bv.z).1.n = n)) : atI M p n = i := by
  unfold atI
  have e : M.findIdx? (fun y => decide (y.1.p = p ∧ y.1.n = n)) = some i := by
    rw [List.findIdx?_eq_some_iff_getElem]
    refine ⟨hi, ?_, fun j hj => ?_⟩
    · rw [decide_eq_true_eq]
      rw [getD_ge _ _ _ hi] at h
      exact h
    · have q := hq j hj
      rw [getD_ge _ _ _ (by omega)] at q
      simpa using q
  rw [e]
theorem at_miss {M : List Bv} {p n : ByteArray} (h : ¬ hasV M p n) : atI M p n = -1 := by
  unfold atI
  have e : M.findIdx? (fun y => decide (y.1.p = p ∧ y.1.n = n)) = none := by
    rw [List.findIdx?_eq_none_iff]
    intro y hy
    exact decide_eq_false (fun q => h ⟨y, hy, q⟩)
  rw [e]
theorem at_pos (M : List Bv) (p n : ByteArray) : 0 ≤ atI M p n ↔ hasV M p n := by
  constructor
  · intro h
    by_cases q : hasV M p n
    · exact q
    · rw [at_miss q] at h; omega
  · rintro ⟨y, hy, q⟩
    unfold atI
    cases e : M.findIdx? (fun y => decide (y.1.p = p ∧ y.1.n = n)) with
    | some j => show (0 : Int) ≤ (j : Int); omega
    | none =>
      rw [List.findIdx?_eq_none_iff] at e
      have := e y hy
      rw [decide_eq_false_iff_not] at this
      exact absurd q this
set_option maxHeartbeats 4000000 in
set_option maxRecDepth 100000 in
theorem refAt_ex (p n : ByteArray) (w : World) (r B : Nat) (a : Option Addr) (c : Nat) (M : List Bv) (H : Rt w r B a c M) (hl : M.length ≤ 1000000) :
    Calls Tryd.prog 15 #[.pointer (some ⟨r, 0, none⟩), .string p, .string n] w fun e w' => e = .returned (.int .i64 (atI M p n)) ∧ Below w.heap.size w w' := by
  have HH := Lib.hid H
  obtain ⟨n0, hn0⟩ : ∃ k, k = M.length := ⟨_, rfl⟩
  have HN := Lib.hid hn0
  have c0 : w.cell? ⟨r, 0, none⟩ = some (.slice a n0 c) := by rw [cell_of_row _ _ _ _ _ _ H.x, hn0]; rfl
  have hl' : n0 ≤ 1000000 := by rw [hn0]; exact hl
  clear H hl hn0
  go_enter Tryd.func15, Tryd.ntmps15
  go_wp2_with fail
  go_loopg [7] n0 (fun gg si wr => ∃ i : Nat, i ≤ n0 ∧ gg = n0 - i ∧ si = .int .i64 i ∧ wr = w ∧ Hid (∀ j, j < i → ¬ ((M.getD j Bv.z).1.p = p ∧ (M.getD j Bv.z).1.n = n)))
  case atStart => exact ⟨0, by omega, rfl, rfl, rfl, Lib.hid (fun j h => by omega)⟩
  case round =>
    obtain ⟨i, hi, hg, rfl, hw, Q⟩ := hrel
    subst hw
    have G := Lib.hid hg
    clear hg
    by_cases h0 : i < n0
    · have h0' : (i : Int) < (n0 : Int) := by omega
      obtain ⟨bb, off, ea, p0, p1, -, -⟩ := row_atB (HH.out.o.row okBv) i (by rw [← HN.out]; exact h0)
      subst ea
      obtain ⟨⟨xp, xn, xs, xv⟩, hx⟩ : ∃ x, x = (M.getD i Bv.z).1 := ⟨_, rfl⟩
      have HX := Lib.hid hx
      rw [← hx] at p0 p1
      simp only at p0 p1
      clear hx
      by_cases e1 : xp = p
      · subst e1
        have g1 : (xp.toList == xp.toList) = true := beq_self_eq_true _
        by_cases e2 : xn = n
        · subst e2
          have g2 : (xn.toList == xn.toList) = true := beq_self_eq_true _
          go_wp2_with fail
          go_ret
          exact ⟨by rw [at_hit (by rw [← HN.out]; exact h0) ⟨by rw [← HX.out], by rw [← HX.out]⟩ Q.out]; rfl, Below.refl _ _⟩
        · have g2 := teq_no e2
          have NQ : Hid (∀ j, j < i + 1 → ¬ ((M.getD j Bv.z).1.p = xp ∧ (M.getD j Bv.z).1.n = n)) := Lib.hid (fun j hj => by
            rcases Nat.lt_or_ge j i with q | q
            · exact Q.out j q
            · rw [show j = i by omega, ← HX.out]; exact fun z => e2 z.2)
          clear e2
          go_wp2_with fail
          go_roundg (n0 - (i + 1))
          case measure => have := G.out; omega
          case rel => exact ⟨i + 1, by omega, rfl, by go_num, rfl, NQ⟩
      · have g1 := teq_no e1
        have NQ : Hid (∀ j, j < i + 1 → ¬ ((M.getD j Bv.z).1.p = p ∧ (M.getD j Bv.z).1.n = n)) := Lib.hid (fun j hj => by
          rcases Nat.lt_or_ge j i with q | q
          · exact Q.out j q
          · rw [show j = i by omega, ← HX.out]; exact fun z => e1 z.1)
        clear e1
        go_wp2_with fail
        go_roundg (n0 - (i + 1))
        case measure => have := G.out; omega
        case rel => exact ⟨i + 1, by omega, rfl, by go_num, rfl, NQ⟩
    · have NO : Hid (¬ hasV M p n) := Lib.hid (by
        rintro ⟨y, hy, h1, h2⟩
        obtain ⟨j, hj, e⟩ := List.getElem_of_mem hy
        have := Q.out j (by have := HN.out; omega)
        rw [getD_ge _ _ _ hj, e] at this
        exact this ⟨h1, h2⟩)
      go_wp2_with fail
      go_ret
      exact ⟨by rw [at_miss NO.out]; rfl, Below.refl _ _⟩
end Ac
end Go.Proofs.YtlbnmafopfljcaaDoor
