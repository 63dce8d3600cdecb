/-
  Small functions: isVerb, is, with, cmp.Compare of texts, cmp.Or, nearer.
-/
import Derived.Test.YtlbnmafopfljcaaDoorAcS
import Derived.Sort.Walk0
namespace Go.Proofs.YtlbnmafopfljcaaDoor
open Go.RowKit Go.Sort
namespace Ac
def cmS (x y : ByteArray) : Int := if Op.bytesLess x.toList y.toList then -1 else if Op.bytesLess y.toList x.toList then 1 else 0
theorem nan_any (x : ByteArray) (w : World) : Calls Tryd.prog 49 #[.string x] w fun e w' => e = .returned (.bool false) ∧ w' = w := by
  have g1 : (x.toList == x.toList) = true := beq_self_eq_true _
  have g2 : (x.toList != x.toList) = false := bne_self_eq_false _
  go_enter Tryd.func49, Tryd.ntmps49
  go_wp2_with fail
  go_ret
  exact ⟨rfl, rfl⟩
theorem cmpS_any (x y : ByteArray) (w : World) : Calls Tryd.prog 28 #[.string x, .string y] w fun e w' => e = .returned (.int .i64 (cmS x y)) ∧ w' = w := by
  have C1 := Lib.hid (nan_any x w)
  have C2 := Lib.hid (nan_any y w)
  cases g : Op.bytesLess x.toList y.toList with
  | true =>
    have E : Hid (cmS x y = -1) := Lib.hid (by unfold cmS; rw [if_pos g])
    go_enter Tryd.func28, Tryd.ntmps28
    go_wp2_with fail
    refine C1.out.mono ?_
    rintro e w1 ⟨rfl, rfl⟩
    go_wp2_with fail
    refine C2.out.mono ?_
    rintro e w1 ⟨rfl, rfl⟩
    go_wp2_with fail
    go_ret
    rw [E.out]
    exact ⟨rfl, rfl⟩
  | false =>
    cases h : Op.bytesLess y.toList x.toList with
    | true =>
      have E : Hid (cmS x y = 1) := Lib.hid (by unfold cmS; rw [if_neg (by rw [g]; decide), if_pos h])
      have q : (x.toList == y.toList) = false := by
        rw [beq_eq_false_iff_ne]
        intro e
        rw [e, bytesLess_eq] at h
        exact absurd (of_decide_eq_true h) (List.lt_irrefl _)
      go_enter Tryd.func28, Tryd.ntmps28
      go_wp2_with fail
      refine C1.out.mono ?_
      rintro e w1 ⟨rfl, rfl⟩
      go_wp2_with fail
      refine C2.out.mono ?_
      rintro e w1 ⟨rfl, rfl⟩
      go_wp2_with fail
      go_ret
      rw [E.out]
      exact ⟨rfl, rfl⟩
    | false =>
      have E : Hid (cmS x y = 0) := Lib.hid (by unfold cmS; rw [if_neg (by rw [g]; decide), if_neg (by rw [h]; decide)])
      have q : (x.toList == y.toList) = true := by
        rw [beq_iff_eq]
        rw [bytesLess_eq] at g h
        exact List.le_antisymm (List.not_lt.1 (of_decide_eq_false h)) (List.not_lt.1 (of_decide_eq_false g))
      go_enter Tryd.func28, Tryd.ntmps28
      go_wp2_with fail
      refine C1.out.mono ?_
      rintro e w1 ⟨rfl, rfl⟩
      go_wp2_with fail
      refine C2.out.mono ?_
      rintro e w1 ⟨rfl, rfl⟩
      go_wp2_with fail
      go_ret
      rw [E.out]
      exact ⟨rfl, rfl⟩
theorem kept_setRow (w : World) (g : Nat) (cs : Array Value) : Kept (fun k => k = g) w (w.setRow g cs) := ⟨rfl, rfl, rfl, by simp [World.setRow], fun k _ hn => setRow_other w g k cs hn⟩
def vbB (v : Int) : Bool := decide (0 ≤ v) && decide (v ≤ 3)
/-- The right is the subject's and includes the verb. -/
def isB (s : ByteArray) (r : Int) (u : ByteArray) (v : Int) : Bool := (s.toList == u.toList) && (vbB v && decide (v ≤ r))
set_option maxHeartbeats 2000000 in
theorem with_any (p q s : ByteArray) (v : Int) (w : World) : Calls Tryd.prog 17 #[pv p q, rv s v] w fun e w' => e = .returned (Bd.val ⟨p, q, s, v⟩) ∧ Below w.heap.size w w' := by
  unfold pv rv Bd.val
  simp only
  obtain ⟨X, hX⟩ : ∃ X, X = w.alloc (.cells #[.string p, .string q] 46) := ⟨_, rfl⟩
  obtain ⟨Y, hY⟩ : ∃ Y, Y = X.alloc (.cells #[.string s, .int .i64 v] 48) := ⟨_, rfl⟩
  obtain ⟨Z, hZ⟩ : ∃ Z, Z = Y.alloc (.cells #[.string ⟨#[]⟩, .string ⟨#[]⟩, .string ⟨#[]⟩, .int .i64 0] 36) := ⟨_, rfl⟩
  have bX : Below w.heap.size w X := by rw [hX]; exact (Below.refl _ _).alloc (Nat.le_refl _) _
  have bY : Below X.heap.size X Y := by rw [hY]; exact (Below.refl _ _).alloc (Nat.le_refl _) _
  have bZ : Below Y.heap.size Y Z := by rw [hZ]; exact (Below.refl _ _).alloc (Nat.le_refl _) _
  have x0 : X.cell? ⟨w.heap.size, 0, none⟩ = some (.string p) := by rw [hX, World.cell?_alloc_new]; rfl
  have x1 : X.cell? ⟨w.heap.size, 1, none⟩ = some (.string q) := by rw [hX, World.cell?_alloc_new]; rfl
  have y0 : Y.cell? ⟨X.heap.size, 0, none⟩ = some (.string s) := by rw [hY, World.cell?_alloc_new]; rfl
  have y1 : Y.cell? ⟨X.heap.size, 1, none⟩ = some (.int .i64 v) := by rw [hY, World.cell?_alloc_new]; rfl
  have bXZ : Below X.heap.size X Z := bY.trans (bZ.mono bY.size)
  have p0 := (bXZ.cell (block_lt_of_cell x0)).trans x0
  have p1 := (bXZ.cell (block_lt_of_cell x1)).trans x1
  have q0 := (bZ.cell (block_lt_of_cell y0)).trans y0
  have q1 := (bZ.cell (block_lt_of_cell y1)).trans y1
  have HZ : Hid (Z.heap[Y.heap.size]? = some (.cells #[.string ⟨#[]⟩, .string ⟨#[]⟩, .string ⟨#[]⟩, .int .i64 0] 36 (0, 0)) ∧ Below w.heap.size w Z ∧ w.heap.size ≤ Y.heap.size) := Lib.hid ⟨by rw [hZ, heap_alloc_new], bX.trans (bXZ.mono bX.size), Nat.le_trans bX.size bY.size⟩
  have ON : Hid ((#[.string p, .string q, .string s, .int .i64 v] : Array Value).all (·.oneCell') = true) := Lib.hid (by simp [Value.oneCell'])
  have hX' := hX.symm
  have hY' := hY.symm
  have hZ' := hZ.symm
  clear hX hY hZ bX bY bZ bXZ x0 x1 y0 y1
  go_enter Tryd.func17, Tryd.ntmps17
  go_wp2_with (refine wpList_store_row rfl 36 (.tmp 4) (.tmp 13) rfl Y.heap.size #[.string p, .string q, .string s, .int .i64 v] rfl rfl 36 #[.string ⟨#[]⟩, .string ⟨#[]⟩, .string ⟨#[]⟩, .int .i64 0] HZ.out.1 size_bd rfl ON.out ?_)
  refine bodyPost_ret (results_cell_row rfl _ _ Y.heap.size 36 #[.string p, .string q, .string s, .int .i64 v] (0, 0) _ rfl (setRow_heap _ _ _ _ _ _ HZ.out.1) Tryd.underlying36 rfl size_bd) rfl ?_
  exact ⟨rfl, HZ.out.2.1.trans ((kept_setRow _ _ _).below HZ.out.2.1.size (fun y e => by rw [e]; exact HZ.out.2.2))⟩
end Ac
end Go.Proofs.YtlbnmafopfljcaaDoor
