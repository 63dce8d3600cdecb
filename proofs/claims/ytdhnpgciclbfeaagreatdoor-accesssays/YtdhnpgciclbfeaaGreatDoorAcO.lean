/-
  nearer.
-/
import Derived.Test.YtdhnpgciclbfeaaGreatDoorAcN
namespace Go.Proofs.YtdhnpgciclbfeaaGreatDoor
open Go.RowKit Go.Sort
namespace Ac
/-- Which of two bindings on a line is nearer. -/
def nearB (a b : Bd) : Bool := decide ((if Lib.compareInt (b.p.size : Int) (a.p.size : Int) = 0 then cmS a.n b.n else Lib.compareInt (b.p.size : Int) (a.p.size : Int)) < 0)
set_option maxHeartbeats 4000000 in
set_option maxRecDepth 100000 in
theorem nearer_any (a b : Bd) (w : World) : Calls Tryz.prog 48 #[a.val, b.val] w fun e w' => e = .returned (.bool (nearB a b)) ∧ Below w.heap.size w w' := by
  obtain ⟨ap, an, az, av⟩ := a
  obtain ⟨bp, bn, bs, bv⟩ := b
  unfold Bd.val
  simp only
  obtain ⟨X, hX⟩ : ∃ X, X = w.alloc (.cells #[.string ap, .string an, .string az, .int .i64 av] 26) := ⟨_, rfl⟩
  obtain ⟨Y, hY⟩ : ∃ Y, Y = X.alloc (.cells #[.string bp, .string bn, .string bs, .int .i64 bv] 26) := ⟨_, rfl⟩
  have bX : Below w.heap.size w X := by rw [hX]; exact (Below.refl _ _).alloc (Nat.le_refl _) _
  have bY : Below X.heap.size X Y := by rw [hY]; exact (Below.refl _ _).alloc (Nat.le_refl _) _
  have x0 : X.cell? ⟨w.heap.size, 0, none⟩ = some (.string ap) := by rw [hX, World.cell?_alloc_new]; rfl
  have x1 : X.cell? ⟨w.heap.size, 1, none⟩ = some (.string an) := by rw [hX, World.cell?_alloc_new]; rfl
  have y0 : Y.cell? ⟨X.heap.size, 0, none⟩ = some (.string bp) := by rw [hY, World.cell?_alloc_new]; rfl
  have y1 : Y.cell? ⟨X.heap.size, 1, none⟩ = some (.string bn) := by rw [hY, World.cell?_alloc_new]; rfl
  have p0 := (bY.cell (block_lt_of_cell x0)).trans x0
  have p1 := (bY.cell (block_lt_of_cell x1)).trans x1
  have BB : Hid (Below w.heap.size w Y) := Lib.hid (bX.trans (bY.mono bX.size))
  obtain ⟨I, hI⟩ : ∃ I, I = Lib.compareInt (bp.size : Int) (ap.size : Int) := ⟨_, rfl⟩
  obtain ⟨J, hJ⟩ : ∃ J, J = cmS an bn := ⟨_, rfl⟩
  have IC : Hid (∀ W : World, Calls Tryz.prog 80 #[.int .i64 (bp.size : Int), .int .i64 (ap.size : Int)] W fun e w' => e = .returned (.int .i64 I) ∧ w' = W) := Lib.hid fun W => by rw [hI]; exact Tryz.cmp_Compare_int _ _ W
  have SC : Hid (∀ W : World, Calls Tryz.prog 39 #[.string an, .string bn] W fun e w' => e = .returned (.int .i64 J) ∧ w' = W) := Lib.hid fun W => by rw [hJ]; exact cmpS_any _ _ W
  have OR : Hid (Calls Tryz.prog 79 #[.slice (some ⟨Y.heap.size, 0, none⟩) 2 2] (Y.alloc (.cells #[.int .i64 I, .int .i64 J] 3)).drew fun e w' => e = .returned (.int .i64 (if I = 0 then J else I)) ∧ w' = (Y.alloc (.cells #[.int .i64 I, .int .i64 J] 3)).drew) := Lib.hid (or_any Y.heap.size I J _ (show (Y.alloc _).cell? _ = _ by rw [World.cell?_alloc_new]; rfl) (show (Y.alloc _).cell? _ = _ by rw [World.cell?_alloc_new]; rfl))
  have EN : Hid (nearB ⟨ap, an, az, av⟩ ⟨bp, bn, bs, bv⟩ = decide ((if I = 0 then J else I) < 0)) := Lib.hid (by unfold nearB; rw [hI, hJ])
  obtain ⟨R, hR⟩ : ∃ R, R = (if I = 0 then J else I) := ⟨_, rfl⟩
  rw [← hR] at EN OR
  rw [EN.out]
  have d0 : Y.drew.cell? ⟨w.heap.size, 0, none⟩ = some (.string ap) := p0
  have d1 : Y.drew.cell? ⟨w.heap.size, 1, none⟩ = some (.string an) := p1
  have d2 : Y.drew.cell? ⟨X.heap.size, 0, none⟩ = some (.string bp) := y0
  have d3 : Y.drew.cell? ⟨X.heap.size, 1, none⟩ = some (.string bn) := y1
  have e0 : (Y.alloc (.cells #[.int .i64 I, .int .i64 J] 3)).drew.cell? ⟨w.heap.size, 0, none⟩ = some (.string ap) := cellA p0 _
  have e1 : (Y.alloc (.cells #[.int .i64 I, .int .i64 J] 3)).drew.cell? ⟨w.heap.size, 1, none⟩ = some (.string an) := cellA p1 _
  have e2 : (Y.alloc (.cells #[.int .i64 I, .int .i64 J] 3)).drew.cell? ⟨X.heap.size, 0, none⟩ = some (.string bp) := cellA y0 _
  have e3 : (Y.alloc (.cells #[.int .i64 I, .int .i64 J] 3)).drew.cell? ⟨X.heap.size, 1, none⟩ = some (.string bn) := cellA y1 _
  have hX' := hX.symm
  have hY' := hY.symm
  clear hX hY bX bY x0 x1 hI hJ hR
  go_enter Tryz.func48, Tryz.ntmps48
  go_wp2_with fail
  go_region_held3 (fun W : World => W.cell? ⟨w.heap.size, 0, none⟩ = some (.string ap) ∧ W.cell? ⟨w.heap.size, 1, none⟩ = some (.string an) ∧ W.cell? ⟨X.heap.size, 0, none⟩ = some (.string bp) ∧ W.cell? ⟨X.heap.size, 1, none⟩ = some (.string bn)) (first | exact ⟨by assumption, by assumption, by assumption, by assumption⟩ | go_keep) (first
    | (go_at_call 80; refine (IC.out _).mono ?_; rintro e x6 ⟨rfl, rfl⟩)
    | (go_at_call 39; refine (SC.out _).mono ?_; rintro e x7 ⟨rfl, rfl⟩)
    | (go_at_call 79; refine OR.out.mono ?_; rintro e x8 ⟨rfl, rfl⟩))
  all_goals
    go_wp2_with fail
    go_ret
    exact ⟨rfl, BB.out.trans ((((Below.refl _ Y).alloc (Nat.le_refl _) _).drew).mono BB.out.size)⟩
end Ac
end Go.Proofs.YtdhnpgciclbfeaaGreatDoor
