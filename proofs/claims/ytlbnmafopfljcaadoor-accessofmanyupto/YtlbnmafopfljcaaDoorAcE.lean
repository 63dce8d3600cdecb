/-
  slices.Compare of texts; comparePaths, compare.
-/
import Derived.Test.YtlbnmafopfljcaaDoorAcO
import Derived.Test.YtlbnmafopfljcaaDoorAcD
namespace Go.Proofs.YtlbnmafopfljcaaDoor
open Go.RowKit Go.Sort
namespace Ac
open L (Gd)
def cmL : List ByteArray → List ByteArray → Int
  | [], [] => 0
  | [], _ :: _ => -1
  | _ :: _, [] => 1
  | x :: xs, y :: ys => if cmS x y = 0 then cmL xs ys else cmS x y
theorem cmL_drop {xs ys : List ByteArray} {i : Nat} (h1 : i < xs.length) (h2 : i < ys.length) : cmL (xs.drop i) (ys.drop i) = if cmS (xs.getD i ⟨#[]⟩) (ys.getD i ⟨#[]⟩) = 0 then cmL (xs.drop (i + 1)) (ys.drop (i + 1)) else cmS (xs.getD i ⟨#[]⟩) (ys.getD i ⟨#[]⟩) := by
  have e1 : xs.drop i = xs.getD i ⟨#[]⟩ :: xs.drop (i + 1) := by rw [List.getD_eq_getElem?_getD, List.getElem?_eq_getElem h1]; simp
  have e2 : ys.drop i = ys.getD i ⟨#[]⟩ :: ys.drop (i + 1) := by rw [List.getD_eq_getElem?_getD, List.getElem?_eq_getElem h2]; simp
  rw [e1, e2, cmL]
set_option maxHeartbeats 4000000 in
set_option maxRecDepth 100000 in
theorem cmpL_any (v0 v1 : Value) (xs ys : List ByteArray) (w : World) (hx : L.Strs w v0 xs) (hy : L.Strs w v1 ys) :
    Calls Tryd.prog 48 #[v0, v1] w fun e w' => e = .returned (.int .i64 (cmL xs ys)) ∧ w' = w := by
  have HX := Lib.hid hx
  have HY := Lib.hid hy
  obtain ⟨a0, c0, rfl, _, hm0⟩ := hx.len
  obtain ⟨a1, c1, rfl, _, hm1⟩ := hy.len
  obtain ⟨n0, hn0⟩ : ∃ n, n = xs.length := ⟨_, rfl⟩
  obtain ⟨n1, hn1⟩ : ∃ n, n = ys.length := ⟨_, rfl⟩
  rw [← hn0] at HX ⊢
  rw [← hn1] at HY ⊢
  have HN := Lib.hid (And.intro hn0 hn1)
  have b0 : n0 ≤ 9223372036854775807 := by unfold maxLen at hm0; omega
  have b1 : n1 ≤ 9223372036854775807 := by unfold maxLen at hm1; omega
  clear hx hy hm0 hm1 hn0 hn1
  obtain ⟨R, hR⟩ : ∃ R, R = cmL xs ys := ⟨_, rfl⟩
  rw [← hR]
  have T0 : Hid (R = cmL (xs.drop 0) (ys.drop 0)) := Lib.hid (by simpa using hR)
  clear hR
  go_enter Tryd.func48, Tryd.ntmps48
  go_wp2_with fail
  go_loopg [11] n0 (fun gg si wr => ∃ i : Nat, i ≤ n0 ∧ i ≤ n1 ∧ gg = n0 - i ∧ si = .int .i64 i ∧ wr = w ∧ Hid (R = cmL (xs.drop i) (ys.drop i)))
  case atStart => exact ⟨0, by omega, by omega, rfl, rfl, rfl, T0⟩
  case round =>
    clear T0
    obtain ⟨i, hi0, hi1, hg, rfl, hw, S⟩ := hrel
    subst hw
    have G := Lib.hid hg
    clear hg
    by_cases h0 : i < n0
    · have h0' : (i : Int) < (n0 : Int) := by omega
      obtain ⟨bb, off, ea, pc⟩ := HX.out.at i (by rw [← HN.out.1]; exact h0)
      subst ea
      obtain ⟨x, hx⟩ : ∃ x, x = xs.getD i ⟨#[]⟩ := ⟨_, rfl⟩
      rw [← hx] at pc
      by_cases h1 : i < n1
      · have h1' : ¬ (n1 : Int) ≤ (i : Int) := by omega
        have g1 : decide ((i : Int) ≥ (n1 : Int)) = false := decide_eq_false (by omega)
        obtain ⟨bb1, off1, ea1, pc1⟩ := HY.out.at i (by rw [← HN.out.2]; exact h1)
        subst ea1
        obtain ⟨y, hy⟩ : ∃ y, y = ys.getD i ⟨#[]⟩ := ⟨_, rfl⟩
        rw [← hy] at pc1
        obtain ⟨C, hC⟩ : ∃ C, C = cmS x y := ⟨_, rfl⟩
        have CP : Hid (∀ W : World, Calls Tryd.prog 28 #[.string x, .string y] W fun e w' => e = .returned (.int .i64 C) ∧ w' = W) := Lib.hid fun W => by rw [hC]; exact cmpS_any x y W
        have ST : Hid (R = if C = 0 then cmL (xs.drop (i + 1)) (ys.drop (i + 1)) else C) := Lib.hid (by rw [S.out, cmL_drop (by rw [← HN.out.1]; exact h0) (by rw [← HN.out.2]; exact h1), ← hx, ← hy, ← hC])
        clear hx hy hC
        have h1'' : (i : Int) < (n1 : Int) := by omega
        go_wp2_with fail
        refine (CP.out _).mono ?_
        rintro e w1 ⟨rfl, hw1⟩
        subst hw1
        by_cases hc : C = 0
        · subst hc
          go_wp2_with fail
          go_roundg (n0 - (i + 1))
          case measure => have := G.out; omega
          case rel => exact ⟨i + 1, by omega, by omega, rfl, by go_num, rfl, Lib.hid (by have h := ST.out; simpa using h)⟩
        · have gc : (C != 0) = true := by rw [bne_iff_ne]; exact hc
          go_wp2_with fail
          go_ret
          exact ⟨by rw [ST.out, if_neg hc]; rfl, rfl⟩
      · have h1' : (n1 : Int) ≤ (i : Int) := by omega
        have g1 : decide ((i : Int) ≥ (n1 : Int)) = true := decide_eq_true (by omega)
        have E : Hid (R = 1) := Lib.hid (by
          rw [S.out, List.drop_of_length_le (l := ys) (by rw [← HN.out.2]; omega)]
          have e1 : xs.drop i = xs.getD i ⟨#[]⟩ :: xs.drop (i + 1) := by rw [List.getD_eq_getElem?_getD, List.getElem?_eq_getElem (by rw [← HN.out.1]; exact h0)]; simp
          rw [e1]; rfl)
        clear hx
        go_wp2_with fail
        go_ret
        exact ⟨by rw [E.out]; rfl, rfl⟩
    · have h0' : ¬ (i : Int) < (n0 : Int) := by omega
      by_cases hl : n0 < n1
      · have hl' : (n0 : Int) < (n1 : Int) := by omega
        have E : Hid (R = -1) := Lib.hid (by
          rw [S.out, List.drop_of_length_le (l := xs) (by rw [← HN.out.1]; omega)]
          have e1 : ys.drop i = ys.getD i ⟨#[]⟩ :: ys.drop (i + 1) := by rw [List.getD_eq_getElem?_getD, List.getElem?_eq_getElem (by rw [← HN.out.2]; omega)]; simp
          rw [e1]; rfl)
        go_wp2_with fail
        go_ret
        exact ⟨by rw [E.out]; rfl, rfl⟩
      · have hl' : ¬ (n0 : Int) < (n1 : Int) := by omega
        have E : Hid (R = 0) := Lib.hid (by rw [S.out, List.drop_of_length_le (l := xs) (by rw [← HN.out.1]; omega), List.drop_of_length_le (l := ys) (by rw [← HN.out.2]; omega)]; rfl)
        go_wp2_with fail
        go_ret
        exact ⟨by rw [E.out]; rfl, rfl⟩
def cmP (a b : ByteArray) : Int := cmL (L.splitT a) (L.splitT b)
set_option maxHeartbeats 2000000 in
theorem comparePaths_any (a b : ByteArray) (w : World) (hm : L.HasM w) : Calls Tryd.prog 27 #[.string a, .string b] w fun e w' => e = .returned (.int .i64 (cmP a b)) ∧ Gd w w' := by
  have S1 := Lib.hid (L.split_gd a w hm)
  have HM := Lib.hid hm
  clear hm
  go_enter Tryd.func27, Tryd.ntmps27
  go_wp2_with fail
  refine S1.out.mono ?_
  rintro e w1 ⟨v1, rfl, o1, g1⟩
  have O1 := Lib.hid (And.intro o1 g1)
  clear o1 g1 S1
  go_wp2_with fail
  refine (L.split_gd b w1 (HM.out.below O1.out.2.1)).mono ?_
  rintro e w2 ⟨v2, rfl, o2, g2⟩
  have O2 : Hid (L.Strs w2 v1 (L.splitT a) ∧ L.Strs w2 v2 (L.splitT b) ∧ Gd w w2) := Lib.hid ⟨O1.out.1.strs.below g2.1, o2.strs, O1.out.2.trans g2⟩
  clear o2 g2 O1
  go_wp2_with fail
  refine (cmpL_any v1 v2 _ _ w2 O2.out.1 O2.out.2.1).mono ?_
  rintro e w3 ⟨rfl, hw3⟩
  subst hw3
  go_wp2_with fail
  go_ret
  exact ⟨rfl, O2.out.2.2⟩
/-- The order of List. -/
def cB (x y : Bd) : Int := if x.p = y.p then cmS x.n y.n else cmP x.p y.p
set_option maxHeartbeats 4000000 in
set_option maxRecDepth 100000 in
theorem compare_any (x y : Bd) (w : World) (hm : L.HasM w) : Calls Tryd.prog 19 #[x.val, y.val] w fun e w' => e = .returned (.int .i64 (cB x y)) ∧ Gd w w' := by
  obtain ⟨ap, an, az, av⟩ := x
  obtain ⟨bp, bn, bz, bv⟩ := y
  unfold Bd.val
  simp only
  obtain ⟨X, hX⟩ : ∃ X, X = w.alloc (.cells #[.string ap, .string an, .string az, .int .i64 av] 36) := ⟨_, rfl⟩
  obtain ⟨Y, hY⟩ : ∃ Y, Y = X.alloc (.cells #[.string bp, .string bn, .string bz, .int .i64 bv] 36) := ⟨_, rfl⟩
  have gY : Gd w Y := by rw [hY, hX]; exact ((Gd.refl w).alloc _).alloc _
  have x0 : X.cell? ⟨w.heap.size, 0, none⟩ = some (.string ap) := by rw [hX, World.cell?_alloc_new]; rfl
  have x1 : X.cell? ⟨w.heap.size, 1, none⟩ = some (.string an) := by rw [hX, World.cell?_alloc_new]; rfl
  have y0 : Y.cell? ⟨X.heap.size, 0, none⟩ = some (.string bp) := by rw [hY, World.cell?_alloc_new]; rfl
  have y1 : Y.cell? ⟨X.heap.size, 1, none⟩ = some (.string bn) := by rw [hY, World.cell?_alloc_new]; rfl
  have p0 : Y.cell? ⟨w.heap.size, 0, none⟩ = some (.string ap) := by rw [hY]; exact cellA x0 _
  have p1 : Y.cell? ⟨w.heap.size, 1, none⟩ = some (.string an) := by rw [hY]; exact cellA x1 _
  have GY := Lib.hid gY
  have HM := Lib.hid (hm.below gY.1)
  have hX' := hX.symm
  have hY' := hY.symm
  clear hX hY gY x0 x1 hm
  by_cases he : ap = bp
  · subst he
    have E : Hid (cB ⟨ap, an, az, av⟩ ⟨ap, bn, bz, bv⟩ = cmS an bn) := Lib.hid (by unfold cB; rw [if_pos rfl])
    have q1 : (ap.toList == ap.toList) = true := beq_self_eq_true _
    have q2 : (ap.toList != ap.toList) = false := bne_self_eq_false _
    go_enter Tryd.func19, Tryd.ntmps19
    go_wp2_with fail
    refine (cmpS_any an bn _).mono ?_
    rintro e w1 ⟨rfl, hw1⟩
    subst hw1
    go_wp2_with fail
    go_ret
    exact ⟨by rw [E.out]; rfl, GY.out⟩
  · have E : Hid (cB ⟨ap, an, az, av⟩ ⟨bp, bn, bz, bv⟩ = cmP ap bp) := Lib.hid (by unfold cB; rw [if_neg he])
    have q1 := teq_no he
    have q2 : (ap.toList != bp.toList) = true := by rw [bne, q1]; rfl
    clear he
    go_enter Tryd.func19, Tryd.ntmps19
    go_wp2_with fail
    refine (comparePaths_any ap bp Y HM.out).mono ?_
    rintro e w1 ⟨rfl, g1⟩
    have G1 := Lib.hid (GY.out.trans g1)
    clear g1
    go_wp2_with fail
    go_ret
    exact ⟨by rw [E.out]; rfl, G1.out⟩
end Ac
end Go.Proofs.YtlbnmafopfljcaaDoor
