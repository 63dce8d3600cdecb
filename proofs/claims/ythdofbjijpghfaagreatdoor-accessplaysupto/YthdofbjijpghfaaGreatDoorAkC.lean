/-
  The document's table: at, New, List.
-/
import Derived.Test.YthdofbjijpghfaaGreatDoorAkB
import Derived.Test.YthdofbjijpghfaaGreatDoorAiS
import Derived.Deep.DeepCutAuto
namespace Go.Proofs.YthdofbjijpghfaaGreatDoor
open Go.RowKit Go.Sort
namespace Ac
/-- The document's table in memory. -/
structure Rt (w : World) (r B : Nat) (a : Option Addr) (c : Nat) (M : List Bv) : Prop where
  x : w.heap[r]? = some (.cells #[.slice a M.length c] 40 (0, 0))
  o : OwnR kBv B w (.slice a M.length c) M
  lt : r < B
theorem Rt.below {w w' : World} {r B : Nat} {a : Option Addr} {c : Nat} {M : List Bv} (h : Rt w r B a c M) (hb : Below w.heap.size w w') : Rt w' r B a c M :=
  ⟨(hb.block r (lt_of_some h.x)).trans h.x, h.o.below hb, h.lt⟩
theorem Rt.kept {F : Nat → Prop} {w w' : World} {r B : Nat} {a : Option Addr} {c : Nat} {M : List Bv} (h : Rt w r B a c M) (hk : Kept F w w') (hF : ∀ y, F y → y ≠ r ∧ y < B) : Rt w' r B a c M :=
  ⟨(hk.block r (lt_of_some h.x) (fun e => (hF r e).1 rfl)).trans h.x, h.o.kept hk (fun k e f => by have := (h.o.lt k e).1; have := (hF k f).2; omega), h.lt⟩
/-- It stands there. -/
def hasV (M : List Bv) (p n : ByteArray) : Prop := ∃ y ∈ M, y.1.p = p ∧ y.1.n = n
set_option maxHeartbeats 4000000 in
set_option maxRecDepth 100000 in
theorem refAt_any (p n : ByteArray) (w : World) (r B : Nat) (a : Option Addr) (c : Nat) (M : List Bv) (H : Rt w r B a c M) (hl : M.length ≤ 1000000) :
    Calls Tryz.prog 31 #[.pointer (some ⟨r, 0, none⟩), .string p, .string n] w fun e w' => ∃ k : Int, e = .returned (.int .i64 k) ∧ (k = -1 ∧ ¬ hasV M p n ∨ ∃ j : Nat, k = j ∧ j < M.length ∧ (M.getD j Bv.z).1.p = p ∧ (M.getD j Bv.z).1.n = n) ∧ Below w.heap.size w w' := by
  have HH := Lib.hid H
  obtain ⟨n0, hn0⟩ : ∃ k, k = M.length := ⟨_, rfl⟩
  have HN := Lib.hid hn0
  have c0 : w.cell? ⟨r, 0, none⟩ = some (.slice a n0 c) := by rw [cell_of_row _ _ _ _ _ _ H.x, hn0]; rfl
  have hl' : n0 ≤ 1000000 := by rw [hn0]; exact hl
  clear H hl hn0
  go_enter Tryz.func31, Tryz.ntmps31
  go_wp2_with fail
  go_loopg [7] n0 (fun gg si wr => ∃ i : Nat, i ≤ n0 ∧ gg = n0 - i ∧ si = .int .i64 i ∧ wr = w ∧ Hid (∀ j, j < i → ¬ ((M.getD j Bv.z).1.p = p ∧ (M.getD j Bv.z).1.n = n)))
  case atStart => exact ⟨0, by omega, rfl, rfl, rfl, Lib.hid (fun j h => by omega)⟩
  case round =>
    obtain ⟨i, hi, hg, rfl, hw, Q⟩ := hrel
    subst hw
    have G := Lib.hid hg
    clear hg
    by_cases h0 : i < n0
    · have h0' : (i : Int) < (n0 : Int) := by omega
      obtain ⟨bb, off, ea, p0, p1, -, -⟩ := row_atB (HH.out.o.row okBv) i (by rw [← HN.out]; exact h0)
      subst ea
      obtain ⟨⟨xp, xn, xs, xv⟩, hx⟩ : ∃ x, x = (M.getD i Bv.z).1 := ⟨_, rfl⟩
      have HX := Lib.hid hx
      rw [← hx] at p0 p1
      simp only at p0 p1
      clear hx
      by_cases e1 : xp = p
      · subst e1
        have g1 : (xp.toList == xp.toList) = true := beq_self_eq_true _
        by_cases e2 : xn = n
        · subst e2
          have g2 : (xn.toList == xn.toList) = true := beq_self_eq_true _
          go_wp2_with fail
          go_ret
          exact ⟨i, rfl, Or.inr ⟨i, rfl, by rw [← HN.out]; exact h0, by rw [← HX.out], by rw [← HX.out]⟩, Below.refl _ _⟩
        · have g2 := teq_no e2
          have NQ : Hid (∀ j, j < i + 1 → ¬ ((M.getD j Bv.z).1.p = xp ∧ (M.getD j Bv.z).1.n = n)) := Lib.hid (fun j hj => by
            rcases Nat.lt_or_ge j i with q | q
            · exact Q.out j q
            · rw [show j = i by omega, ← HX.out]; exact fun z => e2 z.2)
          clear e2
          go_wp2_with fail
          go_roundg (n0 - (i + 1))
          case measure => have := G.out; omega
          case rel => exact ⟨i + 1, by omega, rfl, by go_num, rfl, NQ⟩
      · have g1 := teq_no e1
        have NQ : Hid (∀ j, j < i + 1 → ¬ ((M.getD j Bv.z).1.p = p ∧ (M.getD j Bv.z).1.n = n)) := Lib.hid (fun j hj => by
          rcases Nat.lt_or_ge j i with q | q
          · exact Q.out j q
          · rw [show j = i by omega, ← HX.out]; exact fun z => e1 z.1)
        clear e1
        go_wp2_with fail
        go_roundg (n0 - (i + 1))
        case measure => have := G.out; omega
        case rel => exact ⟨i + 1, by omega, rfl, by go_num, rfl, NQ⟩
    · have NO : Hid (¬ hasV M p n) := Lib.hid (by
        rintro ⟨y, hy, h1, h2⟩
        obtain ⟨j, hj, e⟩ := List.getElem_of_mem hy
        have := Q.out j (by have := HN.out; omega)
        rw [getD_ge _ _ _ hj, e] at this
        exact this ⟨h1, h2⟩)
      go_wp2_with fail
      go_ret
      exact ⟨-1, rfl, Or.inl ⟨rfl, NO.out⟩, Below.refl _ _⟩
theorem refNew_any (w : World) : Calls Tryz.prog 5 #[] w fun e w' => e = .returned (.pointer (some ⟨w.heap.size, 0, none⟩)) ∧ w' = w.alloc (.cells #[.slice none 0 0] 40) := by
  go_enter Tryz.func5, Tryz.ntmps5
  go_wp2_with fail
  go_ret
  exact ⟨rfl, rfl⟩
theorem Rt.start (w : World) : Rt (w.alloc (.cells #[.slice none 0 0] 40)) w.heap.size (w.heap.size + 1) none 0 [] :=
  ⟨by rw [heap_alloc_new]; rfl, OwnR.nil _ _ _, by omega⟩
set_option maxHeartbeats 4000000 in
set_option maxRecDepth 100000 in
theorem refList_any (w : World) (r B : Nat) (a : Option Addr) (c : Nat) (M : List Bv) (H : Rt w r B a c M) (hl : M.length ≤ 1000000) :
    Calls Tryz.prog 9 #[.pointer (some ⟨r, 0, none⟩)] w fun e w' => ∃ v, e = .returned v ∧ OwnR kBv w.heap.size w' v M ∧ Below w.heap.size w w' := by
  have HH := Lib.hid H
  obtain ⟨n0, hn0⟩ : ∃ k, k = M.length := ⟨_, rfl⟩
  have HN := Lib.hid hn0
  have c0 : w.cell? ⟨r, 0, none⟩ = some (.slice a n0 c) := by rw [cell_of_row _ _ _ _ _ _ H.x, hn0]; rfl
  have L1 : Hid ((([] : List Bv).length + M.length) * kBv.b ≤ 140737488355328) := Lib.hid (by show (0 + _) * 56 ≤ _; omega)
  have RR : Hid (Row kBv w (.slice a n0 c) M) := Lib.hid (by rw [hn0]; exact H.o.row okBv)
  clear H hl hn0
  go_enter Tryz.func9, Tryz.ntmps9
  go_wp2_with (at_builtin; refine app_rows okBv (B := w.heap.size) (v := .slice none 0 0) (u := .slice a n0 c) (l := []) (m := M) rfl _ _ rfl rfl (OwnR.nil _ _ _) (Nat.le_refl _) rfl RR.out L1.out ?_; intro v4 w4 h4 g4; rw [List.nil_append] at h4; obtain ⟨n4, ma, mc, rfl⟩ : ∃ n1 a1 c1, v4 = .slice a1 n1 c1 := by (obtain ⟨a', c', e'⟩ := h4.slice; exact ⟨_, a', c', e'⟩))
  go_ret
  exact ⟨_, rfl, h4, (Below.refl _ w).grown g4 (Nat.le_refl _) (fun j hj => by simp [Value.ownBlock] at hj)⟩
end Ac
end Go.Proofs.YthdofbjijpghfaaGreatDoor
