/-
  own.
-/
import Derived.Test.YtfkoiehnkelpoaaDoorWtB
import Derived.Deep.RegionHeld3
import Derived.Deep.RegionLaw
namespace Go.Proofs.YtfkoiehnkelpoaaDoor
open Go.RowKit
namespace Wt
theorem clone_any (s : ByteArray) (w : World) (h : s.size ≤ 140737488355328) : Calls Tryd.prog 62 #[.string s] w fun e w' => e = .returned (.string s) ∧ Below w.heap.size w w' := by
  have C := Lib.hid (Tryd.stringslite_Clone s w (by omega))
  clear h
  go_enter Tryd.func62, Tryd.ntmps62
  go_wp2_with fail
  refine C.out.mono ?_
  rintro e w1 ⟨rfl, hb⟩
  have B := Lib.hid hb
  clear hb C
  go_wp2_with fail
  go_ret
  exact ⟨rfl, B.out⟩
set_option maxHeartbeats 8000000 in
set_option maxRecDepth 100000 in
theorem own_any (x : Ev) (w : World) (hp : x.p.size ≤ 140737488355328) (hn : x.n.size ≤ 140737488355328) : Calls Tryd.prog 47 #[x.val] w fun e w' => e = .returned x.val ∧ Below w.heap.size w w' := by
  obtain ⟨v, k, b, p, n⟩ := x
  have CL : Hid (∀ (W : World) (s : ByteArray), s = p ∨ s = n → Calls Tryd.prog 62 #[.string s] W fun e w' => e = .returned (.string s) ∧ Below W.heap.size W w') := Lib.hid fun W s h => clone_any s W (by rcases h with rfl | rfl <;> assumption)
  clear hp hn
  unfold Ev.val
  simp only
  obtain ⟨X, hX⟩ : ∃ X, X = (w.alloc (.cells #[.int .i64 v, .int .i64 k, .bool b, .string p, .string n] 33)).alloc (.cells #[.int .i64 0, .int .i64 0, .bool false, .string ⟨#[]⟩, .string ⟨#[]⟩] 33) := ⟨_, rfl⟩
  obtain ⟨g, hg⟩ : ∃ g, g = w.heap.size := ⟨_, rfl⟩
  have XS : Hid (X.heap.size = g + 2 ∧ Below w.heap.size w X ∧ X.heap[g]? = some (.cells #[.int .i64 v, .int .i64 k, .bool b, .string p, .string n] 33 (0, 0)) ∧ X.heap[g + 1]? = some (.cells #[.int .i64 0, .int .i64 0, .bool false, .string ⟨#[]⟩, .string ⟨#[]⟩] 33 (0, 0))) := Lib.hid (by
    rw [hX, hg]
    refine ⟨by simp, ?_, ?_, ?_⟩
    · have q := (below_alR w).out (.cells #[.int .i64 v, .int .i64 k, .bool b, .string p, .string n] 33)
      exact q.alloc q.size _
    · rw [((Below.refl _ (w.alloc _)).alloc (Nat.le_refl _) _).block w.heap.size (by simp)]
      exact heap_alloc_new _ _
    · have e : w.heap.size + 1 = (w.alloc (.cells #[.int .i64 v, .int .i64 k, .bool b, .string p, .string n] 33)).heap.size := by simp
      rw [e]; exact heap_alloc_new _ _)
  have BK : Hid (∀ W : World, Below X.heap.size X W → W.heap[g]? = some (.cells #[.int .i64 v, .int .i64 k, .bool b, .string p, .string n] 33 (0, 0)) ∧ W.heap[g + 1]? = some (.cells #[.int .i64 0, .int .i64 0, .bool false, .string ⟨#[]⟩, .string ⟨#[]⟩] 33 (0, 0)) ∧ Below w.heap.size w W) := Lib.hid fun W hb =>
    ⟨by rw [hb.block _ (by have := XS.out.1; omega)]; exact XS.out.2.2.1, by rw [hb.block _ (by have := XS.out.1; omega)]; exact XS.out.2.2.2, XS.out.2.1.trans (hb.mono XS.out.2.1.size)⟩
  have CX : Hid (∀ W : World, Below X.heap.size X W → ∀ i y, #[Value.int .i64 v, .int .i64 k, .bool b, .string p, .string n][i]? = some y → W.cell? ⟨g, i, none⟩ = some y) := Lib.hid fun W hb i y h => by
    rw [cell_of_row _ _ _ _ _ _ (BK.out W hb).1]; exact h
  have BD : Hid (Below X.heap.size X X.drew) := Lib.hid ((Below.refl _ X).drew)
  have d3 : X.drew.cell? ⟨g, 3, none⟩ = some (.string p) := CX.out _ BD.out 3 _ rfl
  have d4 : X.drew.cell? ⟨g, 4, none⟩ = some (.string n) := CX.out _ BD.out 4 _ rfl
  have hX' := hX.symm
  have hg' := hg.symm
  have GW := Lib.hid hg
  clear hX hg
  go_enter Tryd.func47, Tryd.ntmps47
  go_wp2_with fail
  have M1 : True := trivial
  go_region_held3 (fun W : World => W.cell? ⟨g, 3, none⟩ = some (.string p) ∧ W.cell? ⟨g, 4, none⟩ = some (.string n)) (first | (constructor <;> assumption) | go_keep) (first
    | (go_at_call 62
       clear M1
       refine (CL.out _ _ (by first | exact Or.inl rfl | exact Or.inr rfl)).mono ?_
       rintro e x6 ⟨rfl, hb6⟩
       have Q6 : Hid (Below X.heap.size X x6) := Lib.hid (BD.out.trans (hb6.mono BD.out.size))
       have z3 : x6.cell? ⟨g, 3, none⟩ = some (.string p) := CX.out _ Q6.out 3 _ rfl
       have z4 : x6.cell? ⟨g, 4, none⟩ = some (.string n) := CX.out _ Q6.out 4 _ rfl
       clear hb6)
    | (go_at_call 62
       refine (CL.out _ _ (by first | exact Or.inl rfl | exact Or.inr rfl)).mono ?_
       rintro e x7 ⟨rfl, hb7⟩
       have Q7 : Hid (Below X.heap.size X x7) := Lib.hid (Q6.out.trans (hb7.mono Q6.out.size))
       have y3 : x7.cell? ⟨g, 3, none⟩ = some (.string p) := CX.out _ Q7.out 3 _ rfl
       have y4 : x7.cell? ⟨g, 4, none⟩ = some (.string n) := CX.out _ Q7.out 4 _ rfl
       have f3 := frozen_row (BK.out _ Q7.out).1 3
       have f4 := frozen_row (BK.out _ Q7.out).1 4
       have k3 : (x7.setCell ⟨g, 3, none⟩ (.string p)).cell? ⟨g, 3, none⟩ = some (.string p) := by go_simp
       have k4 : (x7.setCell ⟨g, 3, none⟩ (.string p)).cell? ⟨g, 4, none⟩ = some (.string n) := by go_simp
       have m3 : ((x7.setCell ⟨g, 3, none⟩ (.string p)).setCell ⟨g, 4, none⟩ (.string n)).cell? ⟨g, 3, none⟩ = some (.string p) := by go_simp
       have m4 : ((x7.setCell ⟨g, 3, none⟩ (.string p)).setCell ⟨g, 4, none⟩ (.string n)).cell? ⟨g, 4, none⟩ = some (.string n) := by go_simp
       clear hb7))
  have r7 := BK.out _ Q7.out
  have e0 : x7.cell? ⟨g, 0, none⟩ = some (.int .i64 v) := CX.out _ Q7.out 0 _ rfl
  have e1 : x7.cell? ⟨g, 1, none⟩ = some (.int .i64 k) := CX.out _ Q7.out 1 _ rfl
  have e2 : x7.cell? ⟨g, 2, none⟩ = some (.bool b) := CX.out _ Q7.out 2 _ rfl
  have m0 : ((x7.setCell ⟨g, 3, none⟩ (.string p)).setCell ⟨g, 4, none⟩ (.string n)).cell? ⟨g, 0, none⟩ = some (.int .i64 v) := by go_simp
  have m1 : ((x7.setCell ⟨g, 3, none⟩ (.string p)).setCell ⟨g, 4, none⟩ (.string n)).cell? ⟨g, 1, none⟩ = some (.int .i64 k) := by go_simp
  have m2 : ((x7.setCell ⟨g, 3, none⟩ (.string p)).setCell ⟨g, 4, none⟩ (.string n)).cell? ⟨g, 2, none⟩ = some (.bool b) := by go_simp
  obtain ⟨Y, hY⟩ : ∃ Y, Y = (x7.setCell ⟨g, 3, none⟩ (.string p)).setCell ⟨g, 4, none⟩ (.string n) := ⟨_, rfl⟩
  have ZR : Hid (Y.heap[g + 1]? = some (.cells #[.int .i64 0, .int .i64 0, .bool false, .string ⟨#[]⟩, .string ⟨#[]⟩] 33 (0, 0)) ∧ Below w.heap.size w Y) := Lib.hid (by
    have hl : g + 1 < x7.heap.size := lt_of_some r7.2.1
    have b1 := grown_set x7 g 3 (.string p)
    have b2 := grown_set (x7.setCell ⟨g, 3, none⟩ (.string p)) g 4 (.string n)
    rw [hY]
    refine ⟨?_, ?_⟩
    · rw [b2.block (g + 1) (by rw [set_size]; exact hl) (by intro e; injection e with e; omega), b1.block (g + 1) hl (by intro e; injection e with e; omega)]
      exact r7.2.1
    · exact (r7.2.2.setCell (p := ⟨g, 3, none⟩) (by rw [GW.out]; exact Nat.le_refl _) _).setCell (p := ⟨g, 4, none⟩) (by rw [GW.out]; exact Nat.le_refl _) _)
  have ON : Hid ((#[.int .i64 v, .int .i64 k, .bool b, .string p, .string n] : Array Value).all (·.oneCell') = true) := Lib.hid (by simp [Value.oneCell'])
  rw [← hY] at m0 m1 m2 m3 m4 ⊢
  clear hY r7 e0 e1 e2 k3 k4 y3 y4 f3 f4 z3 z4 d3 d4 CX BK XS Q6 Q7 BD CL
  go_wp2_with (refine wpList_store_row rfl 33 (.tmp 2) (.tmp 11) rfl (g + 1) #[.int .i64 v, .int .i64 k, .bool b, .string p, .string n] rfl rfl 33 #[.int .i64 0, .int .i64 0, .bool false, .string ⟨#[]⟩, .string ⟨#[]⟩] ZR.out.1 size_ev rfl ON.out ?_)
  refine bodyPost_ret (results_cell_row rfl _ _ (g + 1) 33 #[.int .i64 v, .int .i64 k, .bool b, .string p, .string n] (0, 0) _ rfl (setRow_heap _ _ _ _ _ _ ZR.out.1) Tryd.underlying33 rfl size_ev) rfl ?_
  refine ⟨rfl, ZR.out.2.trans (Kept.below (grown_kept (grown_row Y (g + 1) _)) ZR.out.2.size (fun x hx => by injection hx with hx; have := GW.out; omega))⟩
end Wt
end Go.Proofs.YtfkoiehnkelpoaaDoor
