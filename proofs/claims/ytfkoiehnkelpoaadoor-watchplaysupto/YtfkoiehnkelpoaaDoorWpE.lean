/-
  The law's dated.
-/
import Derived.Test.YtfkoiehnkelpoaaDoorWpB
namespace Go.Proofs.YtfkoiehnkelpoaaDoor
open Go.RowKit
namespace Wt
def dtE (x : Int) (e : Ev) : Ev := ⟨wrap64 (e.v + x), e.k, e.g, e.p, e.n⟩
set_option maxHeartbeats 8000000 in
set_option maxRecDepth 100000 in
theorem dated_any (l : List Ev) (x : Int) (v : Value) (w : World) (H : Row kE w v l) (hl : l.length ≤ 1048576) :
    Calls Tryd.prog 35 #[v, .int .i64 x] w fun e w' => ∃ v', e = .returned v' ∧ OwnR kE w.heap.size w' v' (l.map (dtE x)) ∧ Below w.heap.size w w' := by
  have V := Lib.hid H
  obtain ⟨a, cap, rfl, hlc, hcm⟩ := H.len
  unfold maxLen at hcm
  clear H
  obtain ⟨n, hn⟩ : ∃ n, n = l.length := ⟨_, rfl⟩
  rw [← hn] at hlc V hl ⊢
  have HN := Lib.hid hn
  clear hn
  go_enter Tryd.func35, Tryd.ntmps35
  go_wp2_with fail
  go_loopg [5, 6] n (fun g so si wr => ∃ (k : Nat) (a' : Option Addr) (m c : Nat), k ≤ n ∧ g = n - k ∧ si = .int .i64 k ∧ so = .slice a' m c ∧ Hid (OwnR kE w.heap.size wr (.slice a' m c) ((l.take k).map (dtE x)) ∧ Below w.heap.size w wr))
  case atStart => exact ⟨0, none, 0, 0, Nat.zero_le _, rfl, rfl, rfl, Lib.hid ⟨OwnR.nil _ _ _, Below.refl _ _⟩⟩
  case round =>
    obtain ⟨k, a', m, c, hk, hg, rfl, rfl, R⟩ := hrel
    have G := Lib.hid hg
    clear hg
    by_cases hlt : k < n
    · have hlt' : (k : Int) < (n : Int) := by omega
      have hkl : k < l.length := by rw [← HN.out]; exact hlt
      obtain ⟨b, off, rfl, c0, c1, c2, c3, c4⟩ := row_at (V.out.below R.out.2) k hkl
      have FT : Hid ((l.take (k + 1)).map (dtE x) = (l.take k).map (dtE x) ++ [dtE x (l.getD k Ev.z)]) := Lib.hid (by rw [take_onez l k Ev.z hkl, List.map_append]; rfl)
      have LZ : Hid ((((l.take k).map (dtE x)).length + 1) * kE.b ≤ 140737488355328) := Lib.hid (by
        rw [List.length_map, List.length_take]
        show (_ + 1) * 56 ≤ _
        omega)
      obtain ⟨y, hy⟩ : ∃ y, y = l.getD k Ev.z := ⟨_, rfl⟩
      rw [← hy] at c0 c1 c2 c3 c4 FT
      clear hy hkl
      obtain ⟨yv, yk, yg, yp, yn⟩ := y
      simp only at c0 c1 c2 c3 c4
      obtain ⟨X, hX⟩ : ∃ X, X = (wr.alloc (.cells #[.int .i64 yv, .int .i64 yk, .bool yg, .string yp, .string yn] 33)) := ⟨_, rfl⟩
      have hXg : X.heap[wr.heap.size]? = some (.cells #[.int .i64 yv, .int .i64 yk, .bool yg, .string yp, .string yn] 33 (0, 0)) := by rw [hX, heap_alloc_new]
      have BX : Hid (Below wr.heap.size wr X) := Lib.hid (by rw [hX]; exact (Below.refl _ wr).alloc (Nat.le_refl _) _)
      have x0 : X.cell? ⟨wr.heap.size, 0, none⟩ = some (.int .i64 yv) := cell_of_row _ _ 0 _ _ _ hXg
      have xf := frozen_row hXg 0
      obtain ⟨Y, hY⟩ : ∃ Y, Y = X.setCell ⟨wr.heap.size, 0, none⟩ (.int .i64 (wrap64 (yv + x))) := ⟨_, rfl⟩
      have hYg : Y.heap[wr.heap.size]? = some (.cells #[.int .i64 (wrap64 (yv + x)), .int .i64 yk, .bool yg, .string yp, .string yn] 33 (0, 0)) := by rw [hY]; exact set_row hXg 0 _
      have BY : Hid (Below w.heap.size w Y ∧ OwnR kE w.heap.size Y (.slice a' m c) ((l.take k).map (dtE x))) := Lib.hid (by
        have h1 : Below w.heap.size w Y := by rw [hY]; exact (R.out.2.trans (BX.out.mono R.out.2.size)).setCell (by exact R.out.2.size) _
        refine ⟨h1, ?_⟩
        rw [hY]
        exact (R.out.1.below BX.out).grownO (grown_set X wr.heap.size 0 _) fun j hj e => by have := (R.out.1.lt j hj).2; injection e with e; omega)
      have y0 : Y.cell? ⟨wr.heap.size, 0, none⟩ = some (.int .i64 (wrap64 (yv + x))) := cell_of_row _ _ 0 _ _ _ hYg
      have y1 : Y.cell? ⟨wr.heap.size, 1, none⟩ = some (.int .i64 yk) := cell_of_row _ _ 1 _ _ _ hYg
      have y2 : Y.cell? ⟨wr.heap.size, 2, none⟩ = some (.bool yg) := cell_of_row _ _ 2 _ _ _ hYg
      have y3 : Y.cell? ⟨wr.heap.size, 3, none⟩ = some (.string yp) := cell_of_row _ _ 3 _ _ _ hYg
      have y4 : Y.cell? ⟨wr.heap.size, 4, none⟩ = some (.string yn) := cell_of_row _ _ 4 _ _ _ hYg
      have hX' := hX.symm
      have hY' := hY.symm
      clear hX hY hXg hYg
      go_wp2_with (at_builtin; refine app_rowB okE (gg := Y.heap.size) rfl _ _ rfl rfl BY.out.2 BY.out.1.size (dtE x ⟨yv, yk, yg, yp, yn⟩) rfl rfl rfl LZ.out ?_; intro v' w' h1 h2)
      obtain ⟨a2, d2, rfl⟩ := h1.slice
      have A : Hid (OwnR kE w.heap.size w' (.slice a2 _ d2) ((l.take (k + 1)).map (dtE x)) ∧ Below w.heap.size w w') := Lib.hid ⟨by rw [FT.out]; exact h1, BY.out.1.grown h2 BY.out.1.size (fun j hj => (BY.out.2.lt j hj).1)⟩
      clear h1 h2
      go_wp2_with fail
      go_roundg (n - (k + 1))
      case measure => have := G.out; omega
      case rel => exact ⟨k + 1, a2, _, d2, by omega, rfl, by go_num, rfl, A⟩
    · have E : Hid (l.take k = l) := Lib.hid (List.take_of_length_le (by rw [← HN.out]; omega))
      go_wp2_with fail
      go_ret
      exact ⟨_, rfl, by have := R.out.1; rw [E.out] at this; exact this, R.out.2⟩
end Wt
end Go.Proofs.YtfkoiehnkelpoaaDoor
