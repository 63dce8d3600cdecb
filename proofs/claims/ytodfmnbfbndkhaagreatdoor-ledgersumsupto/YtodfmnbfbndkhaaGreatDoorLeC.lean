/-
  Charge, Release.
-/
import Derived.Test.YtodfmnbfbndkhaaGreatDoorLeVc
import Derived.Test.YtodfmnbfbndkhaaGreatDoorLeVr
namespace Go.Proofs.YtodfmnbfbndkhaaGreatDoor
open Go.RowKit
namespace Le
set_option maxHeartbeats 4000000 in
set_option maxRecDepth 100000 in
theorem charge_any (o : Ob) (ls ps : Value) (w : World) (t b n : Nat) (D : DataW Unit) (f : Ky → Int) (H : Ld w t b n D) (R : Rep D f) (G : Gl w) (hv : ObV w ls ps o) (hz : PSz o.ps) (hp : o.p.size ≤ 140737488355328) (hs : shE o = 0 → ShOk (shR o)) (hn : n ≤ 100000000000000) :
    Calls Tryz.prog 11 #[.pointer (some ⟨t, 0, none⟩), o.val ls ps] w fun e w' => ∃ D' n', e = .returned (.int .i64 (mvE true f o)) ∧ Ld w' t b n' D' ∧ Rep D' (mvF true f o) ∧ Kept (fun y => y = b) w w' ∧ n' ≤ n + (shR o).length := by
  obtain ⟨g3, hg3⟩ : ∃ g, g = w.heap.size := ⟨_, rfl⟩
  have MV : Hid (∀ W, Below w.heap.size w W → Calls Tryz.prog 29 #[.pointer (some ⟨t, 0, none⟩), o.val ls ps, .func (.func 30) #[] #[]] W fun e w' => Hid (∃ D' n', e = .returned (.int .i64 (mvE true f o)) ∧ Ld w' t b n' D' ∧ Rep D' (mvF true f o) ∧ Kept (fun y => y = b) w w' ∧ n' ≤ n + (shR o).length)) := Lib.hid (fun W h => (move_charged o ls ps W t b n D f (H.below h) R (G.below h) (hv.below h) hz hp hs hn).mono fun e w' ⟨D', n', h1, h2, h3, h4, h5⟩ => Lib.hid ⟨D', n', h1, h2, h3, (Below.kept h _).trans h4 (fun _ _ e => e), h5⟩)
  obtain ⟨mE, hmE⟩ : ∃ e, e = mvE true f o := ⟨_, rfl⟩
  obtain ⟨mF, hmF⟩ : ∃ e, e = mvF true f o := ⟨_, rfl⟩
  obtain ⟨ml, hml⟩ : ∃ e, e = (shR o).length := ⟨_, rfl⟩
  rw [← hmE, ← hmF, ← hml] at MV ⊢
  clear H R G hv hz hp hs hn hmE hmF hml
  obtain ⟨op, on, ols, opr, odl, ops, over⟩ := o
  unfold Ob.val at MV ⊢
  simp only at MV ⊢
  obtain ⟨X, hX⟩ : ∃ X, X = w.alloc (.cells #[.string op, .string on, ls, .int .i64 opr, .int .i64 odl, ps, .int .i64 over] 25) := ⟨_, rfl⟩
  have BX : Hid (Below w.heap.size w X) := Lib.hid (by rw [hX]; exact (Below.refl _ _).alloc (Nat.le_refl _) _)
  have hb : X.heap[g3]? = some (.cells #[.string op, .string on, ls, .int .i64 opr, .int .i64 odl, ps, .int .i64 over] 25 (0, 0)) := by rw [hX, hg3]; exact heap_alloc_new _ _
  have a0 : X.cell? ⟨g3, 0, none⟩ = some (.string op) := by rw [cell_of_row _ _ _ _ _ _ hb]; rfl
  have a1 : X.cell? ⟨g3, 1, none⟩ = some (.string on) := by rw [cell_of_row _ _ _ _ _ _ hb]; rfl
  have a2 : X.cell? ⟨g3, 2, none⟩ = some ls := by rw [cell_of_row _ _ _ _ _ _ hb]; rfl
  have a3 : X.cell? ⟨g3, 3, none⟩ = some (.int .i64 opr) := by rw [cell_of_row _ _ _ _ _ _ hb]; rfl
  have a4 : X.cell? ⟨g3, 4, none⟩ = some (.int .i64 odl) := by rw [cell_of_row _ _ _ _ _ _ hb]; rfl
  have a5 : X.cell? ⟨g3, 5, none⟩ = some ps := by rw [cell_of_row _ _ _ _ _ _ hb]; rfl
  have a6 : X.cell? ⟨g3, 6, none⟩ = some (.int .i64 over) := by rw [cell_of_row _ _ _ _ _ _ hb]; rfl
  have hX' := hX.symm
  have hg3' := hg3.symm
  clear hX hg3 hb
  go_enter Tryz.func11, Tryz.ntmps11
  go_wp2_with fail
  refine (MV.out X BX.out).mono ?_
  rintro e w1 HH
  obtain ⟨D', n', rfl, h2, h3, h4, h5⟩ := HH.out
  have FIN := Lib.hid (And.intro h2 (And.intro h3 (And.intro h4 h5)))
  clear h2 h3 h4 h5 HH MV
  go_wp2_with fail
  go_ret
  exact ⟨D', n', rfl, FIN.out.1, FIN.out.2.1, FIN.out.2.2.1, FIN.out.2.2.2⟩
set_option maxHeartbeats 4000000 in
set_option maxRecDepth 100000 in
theorem release_any (o : Ob) (ls ps : Value) (w : World) (t b n : Nat) (D : DataW Unit) (f : Ky → Int) (H : Ld w t b n D) (R : Rep D f) (G : Gl w) (hv : ObV w ls ps o) (hz : PSz o.ps) (hp : o.p.size ≤ 140737488355328) (hs : shE o = 0 → ShOk (shR o)) (hn : n ≤ 100000000000000) :
    Calls Tryz.prog 14 #[.pointer (some ⟨t, 0, none⟩), o.val ls ps] w fun e w' => ∃ D' n', e = .returned (.int .i64 (mvE false f o)) ∧ Ld w' t b n' D' ∧ Rep D' (mvF false f o) ∧ Kept (fun y => y = b) w w' ∧ n' ≤ n + (shR o).length := by
  obtain ⟨g3, hg3⟩ : ∃ g, g = w.heap.size := ⟨_, rfl⟩
  have MV : Hid (∀ W, Below w.heap.size w W → Calls Tryz.prog 29 #[.pointer (some ⟨t, 0, none⟩), o.val ls ps, .func (.func 33) #[] #[]] W fun e w' => Hid (∃ D' n', e = .returned (.int .i64 (mvE false f o)) ∧ Ld w' t b n' D' ∧ Rep D' (mvF false f o) ∧ Kept (fun y => y = b) w w' ∧ n' ≤ n + (shR o).length)) := Lib.hid (fun W h => (move_released o ls ps W t b n D f (H.below h) R (G.below h) (hv.below h) hz hp hs hn).mono fun e w' ⟨D', n', h1, h2, h3, h4, h5⟩ => Lib.hid ⟨D', n', h1, h2, h3, (Below.kept h _).trans h4 (fun _ _ e => e), h5⟩)
  obtain ⟨mE, hmE⟩ : ∃ e, e = mvE false f o := ⟨_, rfl⟩
  obtain ⟨mF, hmF⟩ : ∃ e, e = mvF false f o := ⟨_, rfl⟩
  obtain ⟨ml, hml⟩ : ∃ e, e = (shR o).length := ⟨_, rfl⟩
  rw [← hmE, ← hmF, ← hml] at MV ⊢
  clear H R G hv hz hp hs hn hmE hmF hml
  obtain ⟨op, on, ols, opr, odl, ops, over⟩ := o
  unfold Ob.val at MV ⊢
  simp only at MV ⊢
  obtain ⟨X, hX⟩ : ∃ X, X = w.alloc (.cells #[.string op, .string on, ls, .int .i64 opr, .int .i64 odl, ps, .int .i64 over] 25) := ⟨_, rfl⟩
  have BX : Hid (Below w.heap.size w X) := Lib.hid (by rw [hX]; exact (Below.refl _ _).alloc (Nat.le_refl _) _)
  have hb : X.heap[g3]? = some (.cells #[.string op, .string on, ls, .int .i64 opr, .int .i64 odl, ps, .int .i64 over] 25 (0, 0)) := by rw [hX, hg3]; exact heap_alloc_new _ _
  have a0 : X.cell? ⟨g3, 0, none⟩ = some (.string op) := by rw [cell_of_row _ _ _ _ _ _ hb]; rfl
  have a1 : X.cell? ⟨g3, 1, none⟩ = some (.string on) := by rw [cell_of_row _ _ _ _ _ _ hb]; rfl
  have a2 : X.cell? ⟨g3, 2, none⟩ = some ls := by rw [cell_of_row _ _ _ _ _ _ hb]; rfl
  have a3 : X.cell? ⟨g3, 3, none⟩ = some (.int .i64 opr) := by rw [cell_of_row _ _ _ _ _ _ hb]; rfl
  have a4 : X.cell? ⟨g3, 4, none⟩ = some (.int .i64 odl) := by rw [cell_of_row _ _ _ _ _ _ hb]; rfl
  have a5 : X.cell? ⟨g3, 5, none⟩ = some ps := by rw [cell_of_row _ _ _ _ _ _ hb]; rfl
  have a6 : X.cell? ⟨g3, 6, none⟩ = some (.int .i64 over) := by rw [cell_of_row _ _ _ _ _ _ hb]; rfl
  have hX' := hX.symm
  have hg3' := hg3.symm
  clear hX hg3 hb
  go_enter Tryz.func14, Tryz.ntmps14
  go_wp2_with fail
  refine (MV.out X BX.out).mono ?_
  rintro e w1 HH
  obtain ⟨D', n', rfl, h2, h3, h4, h5⟩ := HH.out
  have FIN := Lib.hid (And.intro h2 (And.intro h3 (And.intro h4 h5)))
  clear h2 h3 h4 h5 HH MV
  go_wp2_with fail
  go_ret
  exact ⟨D', n', rfl, FIN.out.1, FIN.out.2.1, FIN.out.2.2.1, FIN.out.2.2.2⟩
end Le
end Go.Proofs.YtodfmnbfbndkhaaGreatDoor
