/-
  The document's Set where the place is taken.
-/
import Derived.Test.YthdofbjijpghfaaGreatDoorAkE
namespace Go.Proofs.YthdofbjijpghfaaGreatDoor
open Go.RowKit Go.Sort
namespace Ac
/-- What Set answers there. -/
def SoQ (w : World) (r B : Nat) (a : Option Addr) (c : Nat) (M : List Bv) (x : Bd) (e : Ending) (w' : World) : Prop :=
  e = .returned (.int .i64 0) ∧ ∃ (hv : (L.splitO x.p).isSome = true) (j : Nat), j < M.length ∧ (M.getD j Bv.z).1.p = x.p ∧ (M.getD j Bv.z).1.n = x.n ∧ Rt w' r B a c (M.set j (Bv.mk x hv)) ∧ Kept (fun y => (Value.slice a M.length c).ownBlock = some y) w w'
theorem kept_fourK (w : World) (g i0 i1 i2 i3 : Nat) (u0 u1 u2 u3 : Value) : Kept (fun y => y = g) w ((((w.setCell ⟨g, i0, none⟩ u0).setCell ⟨g, i1, none⟩ u1).setCell ⟨g, i2, none⟩ u2).setCell ⟨g, i3, none⟩ u3) :=
  (((kept_set (F := fun y => y = g) w ⟨g, i0, none⟩ u0 rfl).trans (kept_set (F := fun y => y = g) _ ⟨g, i1, none⟩ u1 rfl) (fun _ _ q => q)).trans (kept_set (F := fun y => y = g) _ ⟨g, i2, none⟩ u2 rfl) (fun _ _ q => q)).trans (kept_set (F := fun y => y = g) _ ⟨g, i3, none⟩ u3 rfl) (fun _ _ q => q)
theorem rt_old {w : World} {r B g c : Nat} {M : List Bv} (H : Rt w r B (some ⟨g, 0, none⟩) c M) (j : Nat) (hj : j < M.length) (x : Bd) (hv : (L.splitO x.p).isSome = true) :
    Rt ((((w.setCell ⟨g, j * 4, none⟩ (.string x.p)).setCell ⟨g, j * 4 + 1, none⟩ (.string x.n)).setCell ⟨g, j * 4 + 2, none⟩ (.string x.s)).setCell ⟨g, j * 4 + 3, none⟩ (.int .i64 x.v)) r B (some ⟨g, 0, none⟩) c (M.set j (Bv.mk x hv)) ∧ Kept (fun y => y = g) w ((((w.setCell ⟨g, j * 4, none⟩ (.string x.p)).setCell ⟨g, j * 4 + 1, none⟩ (.string x.n)).setCell ⟨g, j * 4 + 2, none⟩ (.string x.s)).setCell ⟨g, j * 4 + 3, none⟩ (.int .i64 x.v)) := by
  have k4 := kept_fourK w g (j * 4) (j * 4 + 1) (j * 4 + 2) (j * 4 + 3) (.string x.p) (.string x.n) (.string x.s) (.int .i64 x.v)
  have h := own_setB H.o j hj (Bv.mk x hv)
  have hg := (H.o.lt g rfl).1
  refine ⟨⟨?_, by rw [List.length_set]; exact h, H.lt⟩, k4⟩
  rw [k4.block r (lt_of_some H.x) (fun e => by have := H.lt; omega), List.length_set]
  exact H.x
set_option maxHeartbeats 8000000 in
set_option maxRecDepth 100000 in
theorem refSet_old (x : Bd) (w : World) (r B : Nat) (a : Option Addr) (c : Nat) (M : List Bv) (H : Rt w r B a c M) (hl : M.length ≤ 900000) (hp : x.p.size ≤ 1048576) (hS : bdS x = true) (hno : hasV M x.p x.n) :
    Calls Tryz.prog 11 #[.pointer (some ⟨r, 0, none⟩), x.val] w (SoQ w r B a c M x) := by
  have HH := Lib.hid H
  obtain ⟨n0, hn0⟩ : ∃ k, k = M.length := ⟨_, rfl⟩
  have HN := Lib.hid hn0
  have hl' : n0 ≤ 900000 := by rw [hn0]; exact hl
  obtain ⟨xp, xn, xs, xv⟩ := x
  obtain ⟨g3, hg3⟩ : ∃ g, g = w.heap.size := ⟨_, rfl⟩
  obtain ⟨X, hX⟩ : ∃ X, X = w.alloc (.cells #[.string xp, .string xn, .string xs, .int .i64 xv] 28) := ⟨_, rfl⟩
  have AX : Hid (Below w.heap.size w X ∧ X.heap[g3]? = some (.cells #[.string xp, .string xn, .string xs, .int .i64 xv] 28 (0, 0))) := Lib.hid ⟨by rw [hX]; exact (Below.refl _ _).alloc (Nat.le_refl _) _, by rw [hX, hg3, heap_alloc_new]⟩
  have CX : Hid (∀ W, Below X.heap.size X W → W.cell? ⟨g3, 0, none⟩ = some (.string xp) ∧ W.cell? ⟨g3, 1, none⟩ = some (.string xn) ∧ W.cell? ⟨g3, 2, none⟩ = some (.string xs) ∧ W.cell? ⟨g3, 3, none⟩ = some (.int .i64 xv) ∧ Rt W r B a c M ∧ W.cell? ⟨r, 0, none⟩ = some (.slice a n0 c) ∧ Below w.heap.size w W) := Lib.hid fun W hbb => by
    have hB' : W.heap[g3]? = some (.cells #[.string xp, .string xn, .string xs, .int .i64 xv] 28 (0, 0)) := (hbb.block g3 (lt_of_some AX.out.2)).trans AX.out.2
    have hb1 := AX.out.1.trans (hbb.mono AX.out.1.size)
    have hr := HH.out.below hb1
    refine ⟨cell_of_row _ _ 0 _ _ _ hB', cell_of_row _ _ 1 _ _ _ hB', cell_of_row _ _ 2 _ _ _ hB', cell_of_row _ _ 3 _ _ _ hB', hr, ?_, hb1⟩
    rw [cell_of_row _ _ _ _ _ _ hr.x, HN.out]; rfl
  obtain ⟨x0, x1, x2, x3, -, -, -⟩ := CX.out X (Below.refl _ _)
  have VB := Lib.hid (refValidB_any ⟨xp, xn, xs, xv⟩ X hp)
  have NO := Lib.hid hno
  have hX' := hX.symm
  have hg3' := hg3.symm
  unfold Bd.val at VB ⊢
  simp only at VB NO ⊢
  rw [hS] at VB
  have ST := Lib.hid hS
  have PV : Hid ((L.splitO xp).isSome = true) := Lib.hid (bd_path (x := ⟨xp, xn, xs, xv⟩) ((bd_code _).2 hS))
  clear hX hg3 H hl hp hno hn0 hS
  unfold jdR at VB
  simp only [if_true] at VB
  go_enter Tryz.func11, Tryz.ntmps11
  go_wp2_with fail
  refine VB.out.mono ?_
  rintro e w1 ⟨rfl, hb1⟩
  have B1 := Lib.hid hb1
  obtain ⟨y0, y1, -, -, -, -, -⟩ := CX.out w1 hb1
  have AT := Lib.hid (refAt_any xp xn w1 r B a c M (CX.out w1 hb1).2.2.2.2.1 (by rw [← HN.out]; omega))
  clear hb1 VB x0 x1 x2 x3
  go_wp2_with fail
  refine AT.out.mono ?_
  rintro e w2 ⟨k, rfl, hk, hb2⟩
  obtain ⟨j, hj, hjl, e1, e2⟩ : ∃ j : Nat, k = (j : Int) ∧ j < M.length ∧ (M.getD j Bv.z).1.p = xp ∧ (M.getD j Bv.z).1.n = xn := by
    rcases hk with ⟨_, q⟩ | ⟨j, q, hj, e1, e2⟩
    · exact absurd NO.out q
    · exact ⟨j, q, hj, e1, e2⟩
  subst hj
  have JJ : Hid (j < M.length ∧ (M.getD j Bv.z).1.p = xp ∧ (M.getD j Bv.z).1.n = xn) := Lib.hid ⟨hjl, e1, e2⟩
  have B2 := Lib.hid (B1.out.trans (hb2.mono B1.out.size))
  obtain ⟨u0, u1, u2, u3, -, z5, -⟩ := CX.out w2 B2.out
  have hjn : (j : Int) < (n0 : Int) := by have := HN.out; omega
  have dj : decide ((j : Int) < 0) = false := decide_eq_false (by omega)
  have dg : decide ((j : Int) ≥ 0) = true := decide_eq_true (by omega)
  clear hk hb2 AT y0 y1 hjl e1 e2
  obtain ⟨gm, off, ea, s0, s1, s2, s3⟩ := row_atB ((CX.out w2 B2.out).2.2.2.2.1.o.row okBv) j JJ.out.1
  subst ea
  have hof : off = 0 := by
    obtain ⟨_, ⟨hv, _⟩ | ⟨gg, cap', cur, hv, _⟩⟩ := (CX.out w2 B2.out).2.2.2.2.1.o
    · simp at hv
    · simp only [Value.slice.injEq, Option.some.injEq, Addr.mk.injEq, and_true] at hv
      exact hv.1.2
  subst hof
  simp only [Nat.zero_add] at s0 s1 s2 s3
  obtain ⟨cur, -, -, hg, -⟩ := (CX.out w2 B2.out).2.2.2.2.1.o.parts
  have f0 := frozen_row hg (j * 4)
  have f1 := frozen_row hg (j * 4 + 1)
  have f2 := frozen_row hg (j * 4 + 2)
  have f3 := frozen_row hg (j * 4 + 3)
  have GN : Hid (∀ W, Below w2.heap.size w2 W → Rt ((((W.setCell ⟨gm, j * 4, none⟩ (.string xp)).setCell ⟨gm, j * 4 + 1, none⟩ (.string xn)).setCell ⟨gm, j * 4 + 2, none⟩ (.string xs)).setCell ⟨gm, j * 4 + 3, none⟩ (.int .i64 xv)) r B (some ⟨gm, 0, none⟩) c (M.set j (Bv.mk ⟨xp, xn, xs, xv⟩ PV.out)) ∧ Kept (fun y => y = gm) w ((((W.setCell ⟨gm, j * 4, none⟩ (.string xp)).setCell ⟨gm, j * 4 + 1, none⟩ (.string xn)).setCell ⟨gm, j * 4 + 2, none⟩ (.string xs)).setCell ⟨gm, j * 4 + 3, none⟩ (.int .i64 xv))) := Lib.hid (fun W hW => by
    have c2 := CX.out W (B2.out.trans (hW.mono B2.out.size))
    have q := rt_old c2.2.2.2.2.1 j JJ.out.1 ⟨xp, xn, xs, xv⟩ PV.out
    exact ⟨q.1, (Below.kept c2.2.2.2.2.2.2 _).trans q.2 (fun _ _ e => e)⟩)
  clear hg
  have z5' : w2.drew.cell? ⟨r, 0, none⟩ = some (.slice (some ⟨gm, 0, none⟩) n0 c) := z5
  have u0' : w2.drew.cell? ⟨g3, 0, none⟩ = some (.string xp) := u0
  have u1' : w2.drew.cell? ⟨g3, 1, none⟩ = some (.string xn) := u1
  have u2' : w2.drew.cell? ⟨g3, 2, none⟩ = some (.string xs) := u2
  have u3' : w2.drew.cell? ⟨g3, 3, none⟩ = some (.int .i64 xv) := u3
  obtain ⟨⟨yp, yn, ys, yv⟩, hyq⟩ : ∃ y, y = (M.getD j Bv.z).1 := ⟨_, rfl⟩
  rw [← hyq] at s0 s1 s2 s3
  simp only at s0 s1 s2 s3
  clear hyq
  have ta0' : w2.drew.cell? ⟨gm, j * 4, none⟩ = some (.string yp) := s0
  have ta1 : ∀ u, (w2.setCell ⟨gm, j * 4, none⟩ u).cell? ⟨gm, j * 4 + 1, none⟩ = some (.string yn) := fun u => by
    rw [World.cell?_setCell_other w2 ⟨gm, j * 4, none⟩ ⟨gm, j * 4 + 1, none⟩ _ (by intro e; injection e with e1 e2; omega)]; exact s1
  have ta2 : ∀ u v, ((w2.setCell ⟨gm, j * 4, none⟩ u).setCell ⟨gm, j * 4 + 1, none⟩ v).cell? ⟨gm, j * 4 + 2, none⟩ = some (.string ys) := fun u v => by
    rw [World.cell?_setCell_other _ ⟨gm, j * 4 + 1, none⟩ ⟨gm, j * 4 + 2, none⟩ _ (by intro e; injection e with e1 e2; omega), World.cell?_setCell_other w2 ⟨gm, j * 4, none⟩ ⟨gm, j * 4 + 2, none⟩ _ (by intro e; injection e with e1 e2; omega)]; exact s2
  have ta3 : ∀ u v x, (((w2.setCell ⟨gm, j * 4, none⟩ u).setCell ⟨gm, j * 4 + 1, none⟩ v).setCell ⟨gm, j * 4 + 2, none⟩ x).cell? ⟨gm, j * 4 + 3, none⟩ = some (.int .i64 yv) := fun u v x => by
    rw [World.cell?_setCell_other _ ⟨gm, j * 4 + 2, none⟩ ⟨gm, j * 4 + 3, none⟩ _ (by intro e; injection e with e1 e2; omega), World.cell?_setCell_other _ ⟨gm, j * 4 + 1, none⟩ ⟨gm, j * 4 + 3, none⟩ _ (by intro e; injection e with e1 e2; omega), World.cell?_setCell_other w2 ⟨gm, j * 4, none⟩ ⟨gm, j * 4 + 3, none⟩ _ (by intro e; injection e with e1 e2; omega)]; exact s3
  have tf0' : w2.drew.frozen? ⟨gm, j * 4, none⟩ = false := f0
  have tf1 : ∀ u, (w2.setCell ⟨gm, j * 4, none⟩ u).frozen? ⟨gm, j * 4 + 1, none⟩ = false := fun u => by rw [World.frozen?_setCell]; exact f1
  have tf2 : ∀ u v, ((w2.setCell ⟨gm, j * 4, none⟩ u).setCell ⟨gm, j * 4 + 1, none⟩ v).frozen? ⟨gm, j * 4 + 2, none⟩ = false := fun u v => by rw [World.frozen?_setCell, World.frozen?_setCell]; exact f2
  have tf3 : ∀ u v x, (((w2.setCell ⟨gm, j * 4, none⟩ u).setCell ⟨gm, j * 4 + 1, none⟩ v).setCell ⟨gm, j * 4 + 2, none⟩ x).frozen? ⟨gm, j * 4 + 3, none⟩ = false := fun u v x => by rw [World.frozen?_setCell, World.frozen?_setCell, World.frozen?_setCell]; exact f3
  go_upto_region 6 with fail
  go_region
  obtain ⟨Z, hZ⟩ : ∃ Z, Z = ((((w2.setCell ⟨gm, j * 4, none⟩ (.string xp)).setCell ⟨gm, j * 4 + 1, none⟩ (.string xn)).setCell ⟨gm, j * 4 + 2, none⟩ (.string xs)).setCell ⟨gm, j * 4 + 3, none⟩ (.int .i64 xv)).drew := ⟨_, rfl⟩
  rw [← hZ]
  have FN : Hid (Rt Z r B (some ⟨gm, 0, none⟩) c (M.set j (Bv.mk ⟨xp, xn, xs, xv⟩ PV.out)) ∧ Kept (fun y => y = gm) w Z) := Lib.hid (by
    have q := GN.out w2 (Below.refl _ _)
    obtain ⟨V, hV⟩ : ∃ V, V = ((((w2.setCell ⟨gm, j * 4, none⟩ (.string xp)).setCell ⟨gm, j * 4 + 1, none⟩ (.string xn)).setCell ⟨gm, j * 4 + 2, none⟩ (.string xs)).setCell ⟨gm, j * 4 + 3, none⟩ (.int .i64 xv)) := ⟨_, rfl⟩
    rw [← hV] at q hZ
    have hd : Below V.heap.size V V.drew := (Below.refl _ V).drew
    rw [hZ]
    exact ⟨q.1.below hd, q.2.trans (Below.kept hd _) (fun _ _ e => e)⟩)
  clear hZ
  go_wp2_with fail
  go_ret
  exact ⟨rfl, PV.out, j, JJ.out.1, JJ.out.2.1, JJ.out.2.2, FN.out.1, FN.out.2.mono (fun y _ e => by rw [e]; rfl)⟩
end Ac
end Go.Proofs.YthdofbjijpghfaaGreatDoor
