/-
  The law's play, of every step, and lives.
-/
import Derived.Test.YtdhnpgciclbfeaaGreatDoorAcY
namespace Go.Proofs.YtdhnpgciclbfeaaGreatDoor
open Go.RowKit
namespace Ac
/-- A step. -/
structure Sp where
  two : Bool
  kind : Int
  verb : Int
  b : Bd
  p : ByteArray
  n : ByteArray
  s : ByteArray
def Sp.cells (o : Sp) : List Value := [.bool o.two, .int .i64 o.kind, .int .i64 o.verb, .string o.b.p, .string o.b.n, .string o.b.s, .int .i64 o.b.v, .string o.p, .string o.n, .string o.s]
structure Sp.Fit (o : Sp) : Prop where
  b : o.b.Fit
  p : o.p.size ≤ 140737488355328
  n : o.n.size ≤ 140737488355328
  k : -9223372036854775808 ≤ o.kind ∧ o.kind ≤ 9223372036854775807
variable {w w' : World} {t b n : Nat} {D : DataW Unit}
theorem Ta.more (h : Ta w t b n D) {n' : Nat} (hn : n ≤ n') : Ta w t b n' D := ⟨h.tb.more hn, h.hm⟩
set_option maxHeartbeats 4000000 in
set_option maxRecDepth 100000 in
theorem play_any (o : Sp) (w : World) (t b n : Nat) (D : DataW Unit) (H : Ta w t b n D) (hn : n ≤ 100000) (hf : o.Fit) :
    Calls Tryz.prog 12 #[.pointer (some ⟨t, 0, none⟩), .agg o.cells.toArray] w fun e w' => e = .returned (.tuple #[]) ∧ ∃ D', Ta w' t b (n + 1) D' ∧ Kept (fun y => y = b) w w' := by
  obtain ⟨two, kind, verb, ⟨bp, bn, bs, bv⟩, p, q, s⟩ := o
  unfold Sp.cells
  simp only
  obtain ⟨g3, hg3⟩ : ∃ g, g = w.heap.size := ⟨_, rfl⟩
  obtain ⟨X, hX⟩ : ∃ X, X = w.alloc (.cells #[.bool two, .int .i64 kind, .int .i64 verb, .string bp, .string bn, .string bs, .int .i64 bv, .string p, .string q, .string s] 40) := ⟨_, rfl⟩
  have AX : Hid (Below w.heap.size w X ∧ X.heap[g3]? = some (.cells #[.bool two, .int .i64 kind, .int .i64 verb, .string bp, .string bn, .string bs, .int .i64 bv, .string p, .string q, .string s] 40 (0, 0))) := Lib.hid ⟨by rw [hX]; exact (Below.refl _ _).alloc (Nat.le_refl _) _, by rw [hX, hg3, heap_alloc_new]⟩
  have HX := Lib.hid (H.below AX.out.1)
  have c1 : X.cell? ⟨g3, 1, none⟩ = some (.int .i64 kind) := by rw [cell_of_row _ _ _ _ _ _ AX.out.2]; rfl
  have c3 : X.cell? ⟨g3, 3, none⟩ = some (.string bp) := by rw [cell_of_row _ _ _ _ _ _ AX.out.2]; rfl
  have c4 : X.cell? ⟨g3, 4, none⟩ = some (.string bn) := by rw [cell_of_row _ _ _ _ _ _ AX.out.2]; rfl
  have c5 : X.cell? ⟨g3, 5, none⟩ = some (.string bs) := by rw [cell_of_row _ _ _ _ _ _ AX.out.2]; rfl
  have c6 : X.cell? ⟨g3, 6, none⟩ = some (.int .i64 bv) := by rw [cell_of_row _ _ _ _ _ _ AX.out.2]; rfl
  have c7 : X.cell? ⟨g3, 7, none⟩ = some (.string p) := by rw [cell_of_row _ _ _ _ _ _ AX.out.2]; rfl
  have c8 : X.cell? ⟨g3, 8, none⟩ = some (.string q) := by rw [cell_of_row _ _ _ _ _ _ AX.out.2]; rfl
  have ST := Lib.hid (set_any ⟨bp, bn, bs, bv⟩ X t b n D HX.out hn hf.b)
  have DR := Lib.hid (drop_any p q X t b n D HX.out (by have := hf.p; unfold maxLen; simp only at this; omega) (by have := hf.n; unfold maxLen; simp only at this; omega))
  have LV := Lib.hid (leave_any p X t b n D HX.out (by omega))
  unfold Bd.val at ST
  simp only at ST
  have hX' := hX.symm
  have hg3' := hg3.symm
  clear hX hg3 H hn hf
  by_cases h1 : kind = 1
  · subst h1
    go_enter Tryz.func12, Tryz.ntmps12
    go_wp2_with fail
    refine ST.out.mono ?_
    rintro e w1 ⟨r, D', rfl, hT, hk, -, -⟩
    have R1 := Lib.hid (And.intro hT hk)
    clear hT hk
    go_wp2_with fail
    go_end0
    exact ⟨rfl, D', R1.out.1, (Below.kept AX.out.1 _).trans R1.out.2 (fun _ _ e => e)⟩
  · have g1 : (kind == 1) = false := by rw [beq_eq_false_iff_ne]; exact h1
    by_cases h2 : kind = 2
    · subst h2
      clear h1
      go_enter Tryz.func12, Tryz.ntmps12
      go_wp2_with fail
      refine DR.out.mono ?_
      rintro e w1 ⟨r, D', rfl, hT, hk, -, -⟩
      have R1 := Lib.hid (And.intro hT hk)
      clear hT hk
      go_wp2_with fail
      go_end0
      exact ⟨rfl, D', R1.out.1.more (by omega), (Below.kept AX.out.1 _).trans R1.out.2 (fun _ _ e => e)⟩
    · have g2 : (kind == 2) = false := by rw [beq_eq_false_iff_ne]; exact h2
      by_cases h3 : kind = 3
      · subst h3
        clear h1 h2
        go_enter Tryz.func12, Tryz.ntmps12
        go_wp2_with fail
        refine LV.out.mono ?_
        rintro e w1 ⟨r, D', rfl, hT, hk⟩
        have R1 := Lib.hid (And.intro hT hk)
        clear hT hk
        go_wp2_with fail
        go_end0
        exact ⟨rfl, D', R1.out.1.more (by omega), (Below.kept AX.out.1 _).trans R1.out.2 (fun _ _ e => e)⟩
      · have g3 : (kind == 3) = false := by rw [beq_eq_false_iff_ne]; exact h3
        clear ST DR LV
        go_enter Tryz.func12, Tryz.ntmps12
        go_wp2_with fail
        go_end0
        exact ⟨rfl, D, HX.out.more (by omega), Below.kept AX.out.1 _⟩
end Ac
end Go.Proofs.YtdhnpgciclbfeaaGreatDoor
