/-
  Events in memory; which are right; upTo, within, whole.
-/
import Derived.Test.YtfkoiehnkelpoaaDoorWtG
import Derived.Test.YtfkoiehnkelpoaaDoorWtQ
namespace Go.Proofs.YtfkoiehnkelpoaaDoor
open Go.RowKit
namespace Wt
def Ev.val (e : Ev) : Value := .agg #[.int .i64 e.v, .int .i64 e.k, .bool e.g, .string e.p, .string e.n]
def kE : Kd Ev := ⟨fun e => [.int .i64 e.v, .int .i64 e.k, .bool e.g, .string e.p, .string e.n], 5, 33, 28, 56, Ev.z⟩
theorem okE : kE.Ok := ⟨fun _ => rfl, by decide, fun x u hu => by simp only [kE, List.mem_cons, List.not_mem_nil, or_false] at hu; rcases hu with rfl | rfl | rfl | rfl | rfl <;> rfl, Tryd.underlying28, ⟨_, (by kernel_rfl : (Tryd.prog.info? 33).map (fun i => (i.zero, i.size, i.bytes)) = some (some (.agg #[.int .i64 0, .int .i64 0, .bool false, .string ⟨#[]⟩, .string ⟨#[]⟩]), 5, 56)), rfl⟩, by decide⟩
theorem size_ev : (Tryd.prog.info? 33).map (·.size) = some 5 := by kernel_rfl
/-- Numbers that Go's types bear. -/
def Ev.Fit (e : Ev) : Prop := -9223372036854775808 ≤ e.v ∧ e.v ≤ 9223372036854775807 ∧ -9223372036854775808 ≤ e.k ∧ e.k ≤ 9223372036854775807
theorem row_at {w : World} {a : Option Addr} {n cap : Nat} {xs : List Ev} (H : Row kE w (.slice a n cap) xs) (k : Nat) (hk : k < xs.length) :
    ∃ b off, a = some ⟨b, off, none⟩ ∧ w.cell? ⟨b, off + k * 5, none⟩ = some (.int .i64 (xs.getD k Ev.z).v) ∧ w.cell? ⟨b, off + k * 5 + 1, none⟩ = some (.int .i64 (xs.getD k Ev.z).k) ∧ w.cell? ⟨b, off + k * 5 + 2, none⟩ = some (.bool (xs.getD k Ev.z).g) ∧ w.cell? ⟨b, off + k * 5 + 3, none⟩ = some (.string (xs.getD k Ev.z).p) ∧ w.cell? ⟨b, off + k * 5 + 4, none⟩ = some (.string (xs.getD k Ev.z).n) := by
  obtain ⟨b, off, ea, h⟩ := H.at k hk
  exact ⟨b, off, ea, h 0 _ rfl, h 1 _ rfl, h 2 _ rfl, h 3 _ rfl, h 4 _ rfl⟩
theorem text_nil (t : ByteArray) : t.toList.isEmpty = decide (t.size = 0) := by
  rw [ByteArray.toList_eq, Bool.eq_iff_iff]
  simp only [List.isEmpty_iff, decide_eq_true_iff]
  exact ⟨fun h => by have := congrArg List.length h; simpa using this, fun h => by apply List.eq_nil_of_length_eq_zero; simpa using h⟩
set_option maxHeartbeats 4000000 in
set_option maxRecDepth 100000 in
theorem right_any (x : Ev) (w : World) (hm : L.HasM w) : Calls Tryd.prog 61 #[x.val] w fun e w' => e = .returned (.bool (rightB x)) ∧ Below w.heap.size w w' := by
  obtain ⟨v, k, g, p, n⟩ := x
  obtain ⟨S, hS⟩ : ∃ S, S = rightB ⟨v, k, g, p, n⟩ := ⟨_, rfl⟩
  have ES : Aside (S = (decide (0 ≤ k) && (decide (k ≤ 4) && (decide (L.splitE p = 0) && (if k = 0 then decide (n.size = 0) else L.nameB n))))) := hS
  rw [← hS]
  clear hS
  unfold Ev.val
  simp only
  obtain ⟨X, hX⟩ : ∃ X, X = w.alloc (.cells #[.int .i64 v, .int .i64 k, .bool g, .string p, .string n] 33) := ⟨_, rfl⟩
  have AX : Hid (Below w.heap.size w X ∧ L.HasM X) := Lib.hid (by
    have hb : Below w.heap.size w X := by rw [hX]; exact (Below.refl _ w).alloc (Nat.le_refl _) _
    exact ⟨hb, hm.below hb⟩)
  have CX : Hid (∀ W, Below X.heap.size X W → ∀ i y, #[Value.int .i64 v, .int .i64 k, .bool g, .string p, .string n][i]? = some y → W.cell? ⟨w.heap.size, i, none⟩ = some y) := Lib.hid fun W hb i y h => by
    have h1 : X.cell? ⟨w.heap.size, i, none⟩ = some y := by rw [hX, World.cell?_alloc_new]; exact h
    rw [hb.cell (block_lt_of_cell h1)]; exact h1
  have c1 : X.cell? ⟨w.heap.size, 1, none⟩ = some (.int .i64 k) := CX.out X (Below.refl _ _) 1 _ rfl
  have c3 : X.cell? ⟨w.heap.size, 3, none⟩ = some (.string p) := CX.out X (Below.refl _ _) 3 _ rfl
  have PA := Lib.hid (L.path_any p X AX.out.2)
  have NA := Lib.hid (L.name_any n)
  have TN := Lib.hid (text_nil n)
  have hX' := hX.symm
  clear hX hm
  go_enter Tryd.func61, Tryd.ntmps61
  by_cases h1 : k < 0
  · have E : Hid (S = false) := Lib.hid (by rw [ES.out, decide_eq_false (show ¬ 0 ≤ k by omega)]; rfl)
    go_wp2_with fail
    go_ret
    exact ⟨by rw [E.out]; rfl, AX.out.1⟩
  · by_cases h2 : k > 4
    · have E : Hid (S = false) := Lib.hid (by rw [ES.out, decide_eq_false (show ¬ k ≤ 4 by omega), Bool.false_and, Bool.and_false])
      go_wp2_with fail
      go_ret
      exact ⟨by rw [E.out]; rfl, AX.out.1⟩
    · have E0 : Hid (S = (decide (L.splitE p = 0) && (if k = 0 then decide (n.size = 0) else L.nameB n))) := Lib.hid (by rw [ES.out, decide_eq_true (show 0 ≤ k by omega), decide_eq_true (show k ≤ 4 by omega)]; simp)
      go_wp2_with fail
      refine PA.out.mono ?_
      rintro e w1 ⟨rfl, hb⟩
      have B1 := Lib.hid (AX.out.1.trans (hb.mono AX.out.1.size))
      have d1 : w1.cell? ⟨w.heap.size, 1, none⟩ = some (.int .i64 k) := CX.out w1 hb 1 _ rfl
      have d4 : w1.cell? ⟨w.heap.size, 4, none⟩ = some (.string n) := CX.out w1 hb 4 _ rfl
      clear hb PA c1 c3 CX
      by_cases h3 : L.splitE p = 0
      · have g3 : (L.splitE p == 0) = true := by rw [beq_iff_eq]; exact h3
        by_cases h4 : k = 0
        · have E : Hid (S = decide (n.size = 0)) := Lib.hid (by rw [E0.out, decide_eq_true h3, if_pos h4]; rfl)
          clear h3
          subst h4
          go_wp2_with fail
          go_ret
          exact ⟨by rw [E.out, ← TN.out]; rfl, B1.out⟩
        · have E : Hid (S = L.nameB n) := Lib.hid (by rw [E0.out, decide_eq_true h3, if_neg h4]; rfl)
          have g4 : (k == 0) = false := by rw [beq_eq_false_iff_ne]; exact h4
          clear h3 h4
          go_wp2_with fail
          refine (NA.out w1).mono ?_
          rintro e w2 ⟨rfl, hb⟩
          have B2 := Lib.hid (B1.out.trans (hb.mono B1.out.size))
          clear hb
          go_wp2_with fail
          go_ret
          exact ⟨by rw [E.out]; rfl, B2.out⟩
      · have g3 : (L.splitE p == 0) = false := by rw [beq_eq_false_iff_ne]; exact h3
        have E : Hid (S = false) := Lib.hid (by rw [E0.out, decide_eq_false h3]; rfl)
        clear h3
        go_wp2_with fail
        go_ret
        exact ⟨by rw [E.out]; rfl, B1.out⟩
set_option maxHeartbeats 4000000 in
set_option maxRecDepth 100000 in
theorem lright_any (x : Ev) (w : World) (hm : L.HasM w) : Calls Tryd.prog 29 #[x.val] w fun e w' => e = .returned (.bool (rightB x)) ∧ Below w.heap.size w w' := by
  obtain ⟨v, k, g, p, n⟩ := x
  obtain ⟨S, hS⟩ : ∃ S, S = rightB ⟨v, k, g, p, n⟩ := ⟨_, rfl⟩
  have ES : Aside (S = (decide (0 ≤ k) && (decide (k ≤ 4) && (decide (L.splitE p = 0) && (if k = 0 then decide (n.size = 0) else L.nameB n))))) := hS
  rw [← hS]
  clear hS
  unfold Ev.val
  simp only
  obtain ⟨X, hX⟩ : ∃ X, X = w.alloc (.cells #[.int .i64 v, .int .i64 k, .bool g, .string p, .string n] 33) := ⟨_, rfl⟩
  have AX : Hid (Below w.heap.size w X ∧ L.HasM X) := Lib.hid (by
    have hb : Below w.heap.size w X := by rw [hX]; exact (Below.refl _ w).alloc (Nat.le_refl _) _
    exact ⟨hb, hm.below hb⟩)
  have CX : Hid (∀ W, Below X.heap.size X W → ∀ i y, #[Value.int .i64 v, .int .i64 k, .bool g, .string p, .string n][i]? = some y → W.cell? ⟨w.heap.size, i, none⟩ = some y) := Lib.hid fun W hb i y h => by
    have h1 : X.cell? ⟨w.heap.size, i, none⟩ = some y := by rw [hX, World.cell?_alloc_new]; exact h
    rw [hb.cell (block_lt_of_cell h1)]; exact h1
  have c1 : X.cell? ⟨w.heap.size, 1, none⟩ = some (.int .i64 k) := CX.out X (Below.refl _ _) 1 _ rfl
  have c3 : X.cell? ⟨w.heap.size, 3, none⟩ = some (.string p) := CX.out X (Below.refl _ _) 3 _ rfl
  have PA := Lib.hid (L.path_any p X AX.out.2)
  have NA := Lib.hid (L.name_any n)
  have TN := Lib.hid (text_nil n)
  have hX' := hX.symm
  clear hX hm
  go_enter Tryd.func29, Tryd.ntmps29
  by_cases h1 : k < 0
  · have E : Hid (S = false) := Lib.hid (by rw [ES.out, decide_eq_false (show ¬ 0 ≤ k by omega)]; rfl)
    go_wp2_with fail
    go_ret
    exact ⟨by rw [E.out]; rfl, AX.out.1⟩
  · by_cases h2 : k > 4
    · have E : Hid (S = false) := Lib.hid (by rw [ES.out, decide_eq_false (show ¬ k ≤ 4 by omega), Bool.false_and, Bool.and_false])
      go_wp2_with fail
      go_ret
      exact ⟨by rw [E.out]; rfl, AX.out.1⟩
    · have E0 : Hid (S = (decide (L.splitE p = 0) && (if k = 0 then decide (n.size = 0) else L.nameB n))) := Lib.hid (by rw [ES.out, decide_eq_true (show 0 ≤ k by omega), decide_eq_true (show k ≤ 4 by omega)]; simp)
      go_wp2_with fail
      refine PA.out.mono ?_
      rintro e w1 ⟨rfl, hb⟩
      have B1 := Lib.hid (AX.out.1.trans (hb.mono AX.out.1.size))
      have d1 : w1.cell? ⟨w.heap.size, 1, none⟩ = some (.int .i64 k) := CX.out w1 hb 1 _ rfl
      have d4 : w1.cell? ⟨w.heap.size, 4, none⟩ = some (.string n) := CX.out w1 hb 4 _ rfl
      clear hb PA c1 c3 CX
      by_cases h3 : L.splitE p = 0
      · have g3 : (L.splitE p == 0) = true := by rw [beq_iff_eq]; exact h3
        by_cases h4 : k = 0
        · have E : Hid (S = decide (n.size = 0)) := Lib.hid (by rw [E0.out, decide_eq_true h3, if_pos h4]; rfl)
          clear h3
          subst h4
          go_wp2_with fail
          go_ret
          exact ⟨by rw [E.out, ← TN.out]; rfl, B1.out⟩
        · have E : Hid (S = L.nameB n) := Lib.hid (by rw [E0.out, decide_eq_true h3, if_neg h4]; rfl)
          have g4 : (k == 0) = false := by rw [beq_eq_false_iff_ne]; exact h4
          clear h3 h4
          go_wp2_with fail
          refine (NA.out w1).mono ?_
          rintro e w2 ⟨rfl, hb⟩
          have B2 := Lib.hid (B1.out.trans (hb.mono B1.out.size))
          clear hb
          go_wp2_with fail
          go_ret
          exact ⟨by rw [E.out]; rfl, B2.out⟩
      · have g3 : (L.splitE p == 0) = false := by rw [beq_eq_false_iff_ne]; exact h3
        have E : Hid (S = false) := Lib.hid (by rw [E0.out, decide_eq_false h3]; rfl)
        clear h3
        go_wp2_with fail
        go_ret
        exact ⟨by rw [E.out]; rfl, B1.out⟩
set_option maxHeartbeats 4000000 in
set_option maxRecDepth 100000 in
theorem upTo_any (l : List Ev) (x : Int) (v : Value) (w : World) (H : Row kE w v l) : Calls Tryd.prog 30 #[v, .int .i64 x] w fun e w' => e = .returned (.int .i64 (upN l x)) ∧ w' = w := by
  have V := Lib.hid H
  obtain ⟨a, cap, rfl, hlc, hcm⟩ := H.len
  unfold maxLen at hcm
  clear H
  obtain ⟨n, hn⟩ : ∃ n, n = l.length := ⟨_, rfl⟩
  rw [← hn] at hlc V ⊢
  have HN := Lib.hid hn
  obtain ⟨u, hu⟩ : ∃ u, u = upN l x := ⟨_, rfl⟩
  have HU : Hid (u = upN l x ∧ u ≤ n) := Lib.hid ⟨hu, by rw [hu, hn]; exact upN_le l x⟩
  rw [← hu]
  clear hn hu
  go_enter Tryd.func30, Tryd.ntmps30
  go_wp2_with fail
  go_loopg [5] u (fun g si wr => ∃ k : Nat, k ≤ u ∧ g = u - k ∧ si = .int .i64 k ∧ wr = w)
  case atStart => exact ⟨0, Nat.zero_le _, rfl, rfl, rfl⟩
  case round =>
    obtain ⟨k, hk, hg, rfl, rfl⟩ := hrel
    have G := Lib.hid hg
    clear hg
    have ST := Lib.hid (upN_step l x k (by rw [← HU.out.1]; exact hk))
    by_cases hlt : k < n
    · have hlt' : (k : Int) < (n : Int) := by omega
      obtain ⟨b, off, rfl, c0, -⟩ := row_at V.out k (by rw [← HN.out]; exact hlt)
      obtain ⟨y, hy⟩ : ∃ y, y = (l.getD k Ev.z).v := ⟨_, rfl⟩
      rw [← hy] at c0
      have HY := Lib.hid hy
      clear hy
      by_cases hle : y ≤ x
      · have hku : Hid (k < u) := Lib.hid (by rw [HU.out.1]; exact ST.out.2 ⟨by rw [← HN.out]; exact hlt, by rw [← HY.out]; exact hle⟩)
        go_wp2_with fail
        go_roundg (u - (k + 1))
        case measure => have := G.out; have := hku.out; omega
        case rel => exact ⟨k + 1, hku.out, rfl, by go_num, rfl⟩
      · have hku : Hid (k = u) := Lib.hid (by
          rcases Nat.lt_or_ge k u with q | q
          · rw [HU.out.1] at q
            have := (ST.out.1 q).2
            rw [← HY.out] at this
            exact absurd this hle
          · omega)
        go_wp2_with fail
        go_ret
        exact ⟨by rw [hku.out]; rfl, rfl⟩
    · have hku : Hid (k = u) := Lib.hid (by have := HU.out.2; omega)
      go_wp2_with fail
      go_ret
      exact ⟨by rw [hku.out]; rfl, rfl⟩
set_option maxHeartbeats 4000000 in
set_option maxRecDepth 100000 in
theorem allRight_any (l : List Ev) (x : Int) (v : Value) (w : World) (hm : L.HasM w) (H : Row kE w v l) : Calls Tryd.prog 46 #[v, .int .i64 x] w fun e w' => e = .returned (.bool (l.all fun e => decide (e.v = x) && rightB e)) ∧ Below w.heap.size w w' := by
  have V := Lib.hid H
  have M := Lib.hid hm
  obtain ⟨a, cap, rfl, hlc, hcm⟩ := H.len
  unfold maxLen at hcm
  clear H hm
  obtain ⟨n, hn⟩ : ∃ n, n = l.length := ⟨_, rfl⟩
  rw [← hn] at hlc V ⊢
  have HN := Lib.hid hn
  obtain ⟨S, hS⟩ : ∃ S, S = l.all fun e => decide (e.v = x) && rightB e := ⟨_, rfl⟩
  have HS := Lib.hid hS
  rw [← hS]
  clear hn hS
  go_enter Tryd.func46, Tryd.ntmps46
  go_wp2_with fail
  go_loopg [9] n (fun g si wr => ∃ k : Nat, k ≤ n ∧ g = n - k ∧ si = .int .i64 k ∧ Hid ((∀ i, i < k → (decide ((l.getD i Ev.z).v = x) && rightB (l.getD i Ev.z)) = true) ∧ Below w.heap.size w wr))
  case atStart => exact ⟨0, Nat.zero_le _, rfl, rfl, Lib.hid ⟨fun i hi => by omega, Below.refl _ _⟩⟩
  case round =>
    obtain ⟨k, hk, hg, rfl, R⟩ := hrel
    have G := Lib.hid hg
    clear hg
    by_cases hlt : k < n
    · have hlt' : (k : Int) < (n : Int) := by omega
      have hkl : k < l.length := by rw [← HN.out]; exact hlt
      obtain ⟨b, off, rfl, c0, c1, c2, c3, c4⟩ := row_at (V.out.below R.out.2) k hkl
      have NO : Hid ((decide ((l.getD k Ev.z).v = x) && rightB (l.getD k Ev.z)) = false → S = false) := Lib.hid fun h => by
        rw [HS.out, Bool.eq_false_iff]
        intro q
        rw [List.all_eq_true] at q
        have := q _ (getD_in (d := Ev.z) hkl)
        rw [h] at this; cases this
      have YES : Hid ((decide ((l.getD k Ev.z).v = x) && rightB (l.getD k Ev.z)) = true → ∀ i, i < k + 1 → (decide ((l.getD i Ev.z).v = x) && rightB (l.getD i Ev.z)) = true) := Lib.hid fun h i hi => by
        rcases Nat.lt_or_ge i k with q | q
        · exact R.out.1 i q
        · rw [show i = k by omega]; exact h
      obtain ⟨y, hy⟩ : ∃ y, y = l.getD k Ev.z := ⟨_, rfl⟩
      rw [← hy] at c0 c1 c2 c3 c4 NO YES
      clear hy hkl
      obtain ⟨yv, yk, yg, yp, yn⟩ := y
      simp only at c0 c1 c2 c3 c4 NO YES
      obtain ⟨X, hX⟩ : ∃ X, X = wr.alloc (.cells #[.int .i64 yv, .int .i64 yk, .bool yg, .string yp, .string yn] 33) := ⟨_, rfl⟩
      have AX : Hid (Below w.heap.size w X ∧ L.HasM X) := Lib.hid (by
        have hb : Below wr.heap.size wr X := by rw [hX]; exact (Below.refl _ wr).alloc (Nat.le_refl _) _
        have hb2 := R.out.2.trans (hb.mono R.out.2.size)
        exact ⟨hb2, M.out.below hb2⟩)
      have RA : Hid (Calls Tryd.prog 61 #[.agg #[.int .i64 yv, .int .i64 yk, .bool yg, .string yp, .string yn]] X fun e w' => e = .returned (.bool (rightB ⟨yv, yk, yg, yp, yn⟩)) ∧ Below X.heap.size X w') := Lib.hid (right_any ⟨yv, yk, yg, yp, yn⟩ X AX.out.2)
      have x0 : X.cell? ⟨wr.heap.size, 0, none⟩ = some (.int .i64 yv) := by rw [hX, World.cell?_alloc_new]; rfl
      have x1 : X.cell? ⟨wr.heap.size, 1, none⟩ = some (.int .i64 yk) := by rw [hX, World.cell?_alloc_new]; rfl
      have x2 : X.cell? ⟨wr.heap.size, 2, none⟩ = some (.bool yg) := by rw [hX, World.cell?_alloc_new]; rfl
      have x3 : X.cell? ⟨wr.heap.size, 3, none⟩ = some (.string yp) := by rw [hX, World.cell?_alloc_new]; rfl
      have x4 : X.cell? ⟨wr.heap.size, 4, none⟩ = some (.string yn) := by rw [hX, World.cell?_alloc_new]; rfl
      have hX' := hX.symm
      clear hX
      by_cases he : yv = x
      · subst he
        go_wp2_with fail
        refine RA.out.mono ?_
        rintro e w1 ⟨rfl, hb⟩
        have B1 := Lib.hid (AX.out.1.trans (hb.mono AX.out.1.size))
        clear hb
        by_cases hr : rightB ⟨yv, yk, yg, yp, yn⟩ = true
        · have Y2 := Lib.hid (YES.out (by simp [hr]))
          rw [hr]
          go_wp2_with fail
          go_roundg (n - (k + 1))
          case measure => have := G.out; omega
          case rel => exact ⟨k + 1, by omega, rfl, by go_num, Lib.hid ⟨Y2.out, B1.out⟩⟩
        · have hr' : rightB ⟨yv, yk, yg, yp, yn⟩ = false := by simpa using hr
          have N2 := Lib.hid (NO.out (by rw [hr', Bool.and_false]))
          rw [hr']
          go_wp2_with fail
          go_ret
          exact ⟨by rw [N2.out]; rfl, B1.out⟩
      · have g3 : (yv == x) = false := by rw [beq_eq_false_iff_ne]; exact he
        have N2 := Lib.hid (NO.out (by rw [decide_eq_false he]; rfl))
        go_wp2_with fail
        go_ret
        exact ⟨by rw [N2.out]; rfl, by first | exact AX.out.1 | (rw [hX']; exact AX.out.1)⟩
    · have E : Hid (S = true) := Lib.hid (by
        rw [HS.out, List.all_eq_true]
        intro e he
        obtain ⟨i, hi, rfl⟩ := List.mem_iff_getElem.1 he
        have := R.out.1 i (by have := HN.out; omega)
        rw [List.getD_eq_getElem?_getD, List.getElem?_eq_getElem hi] at this
        exact this)
      go_wp2_with fail
      go_ret
      exact ⟨by rw [E.out]; rfl, R.out.2⟩
end Wt
end Go.Proofs.YtfkoiehnkelpoaaDoor
