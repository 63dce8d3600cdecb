/-
  The document's hub in memory: New, Low, High, Right, of.
-/
import Derived.Test.YtfkoiehnkelpoaaDoorLRefUnd
import Derived.Test.YtfkoiehnkelpoaaDoorLRefPath
import Derived.Test.YtfkoiehnkelpoaaDoorWtI
import Derived.Test.YtfkoiehnkelpoaaDoorWtF
import Derived.Test.YtfkoiehnkelpoaaDoorWpA
namespace Go.Proofs.YtfkoiehnkelpoaaDoor
open Go.RowKit
namespace Wt
theorem runder_anyB (p q : ByteArray) (w : World) (hs : p.size ≤ 1048576) : Calls Tryd.prog 44 #[.string p, .string q] w fun e w' => e = .returned (.bool (L.underB p q)) ∧ Below w.heap.size w w' := by
  cases h : L.splitO p with
  | none => rw [(L.under_none (b := q) h).1]; exact L.refUnder_none p q w hs h
  | some ts =>
    obtain ⟨rfl, hg⟩ := L.splitO_some h
    have := L.refUnder_any ts q hg w
    rw [L.inB_under hg] at this
    exact this
structure Rb (w : World) (g : Nat) (v : Value) (s : St) : Prop where
  hb : w.heap[g]? = some (.cells #[.int .i64 s.lo, .int .i64 s.hi, v] 72 (0, 0))
  row : OwnR kE 0 w v s.es
section
variable {w w' : World} {g : Nat} {v : Value} {s : St}
theorem Rb.kept {F : Nat → Prop} (h : Rb w g v s) (hk : Kept F w w') (h1 : ∀ k, HF g v k → ¬ F k) : Rb w' g v s :=
  ⟨(hk.block g (lt_of_some h.hb) (h1 g (.inl rfl))).trans h.hb, h.row.kept hk fun k e => h1 k (.inr e.symm)⟩
theorem Rb.below (h : Rb w g v s) (hb : Below w.heap.size w w') : Rb w' g v s := h.kept (Below.kept hb (fun _ => False)) fun _ _ q => q
theorem Rb.c0 (h : Rb w g v s) : w.cell? ⟨g, 0, none⟩ = some (.int .i64 s.lo) := cell_of_row w g 0 _ _ _ h.hb
theorem Rb.c1 (h : Rb w g v s) : w.cell? ⟨g, 1, none⟩ = some (.int .i64 s.hi) := cell_of_row w g 1 _ _ _ h.hb
theorem Rb.c2 (h : Rb w g v s) : w.cell? ⟨g, 2, none⟩ = some v := cell_of_row w g 2 _ _ _ h.hb
theorem Rb.frozen (h : Rb w g v s) (i : Nat) : w.frozen? ⟨g, i, none⟩ = false := frozen_row h.hb i
theorem Rb.ne (h : Rb w g v s) : ∀ k, v.ownBlock = some k → k ≠ g := fun k hk e => by
  obtain ⟨cs, m, q⟩ := h.row.ty k hk
  rw [e, h.hb] at q
  simp only [Option.some.injEq, Obj.cells.injEq] at q
  have h2 := q.2.1
  exact absurd h2 (by decide)
theorem Rb.own_set (h : Rb w g v s) (i : Nat) (x : Value) : OwnR kE 0 (w.setCell ⟨g, i, none⟩ x) v s.es := h.row.grownO (grown_set w g i x) fun k hk e => h.ne k hk (by injection e)
theorem Rb.setLo (h : Rb w g v s) (x : Int) : Rb (w.setCell ⟨g, 0, none⟩ (.int .i64 x)) g v ⟨x, s.hi, s.es⟩ := ⟨set_row h.hb 0 _, h.own_set _ _⟩
theorem Rb.setHi (h : Rb w g v s) (x : Int) : Rb (w.setCell ⟨g, 1, none⟩ (.int .i64 x)) g v ⟨s.lo, x, s.es⟩ := ⟨set_row h.hb 1 _, h.own_set _ _⟩
theorem Rb.setEs (h : w.heap[g]? = some (.cells #[.int .i64 s.lo, .int .i64 s.hi, v] 72 (0, 0))) {v' : Value} {es : List Ev} (hr : OwnR kE 0 w v' es) (hne : ∀ k, v'.ownBlock = some k → k ≠ g) : Rb (w.setCell ⟨g, 2, none⟩ v') g v' ⟨s.lo, s.hi, es⟩ :=
  ⟨set_row h 2 _, hr.grownO (grown_set w g 2 _) fun k hk e => hne k hk (by injection e)⟩
theorem rown_ne (h : w.heap[g]? = some (.cells #[.int .i64 s.lo, .int .i64 s.hi, v] 72 (0, 0))) {v' : Value} {es : List Ev} (hr : OwnR kE 0 w v' es) : ∀ k, v'.ownBlock = some k → k ≠ g := fun k hk e => by
  obtain ⟨cs, m, q⟩ := hr.ty k hk
  rw [e, h] at q
  simp only [Option.some.injEq, Obj.cells.injEq] at q
  have h2 := q.2.1
  exact absurd h2 (by decide)
end
set_option maxHeartbeats 2000000 in
theorem rnew_any (x : Int) (w : World) : Calls Tryd.prog 19 #[.int .i64 x] w fun e w' => e = .returned (.pointer (some ⟨w.heap.size, 0, none⟩)) ∧ Rb w' w.heap.size (.slice none 0 0) ⟨min (max x 0) 1152921504606846976, min (max x 0) 1152921504606846976, []⟩ ∧ Below w.heap.size w w' := by
  obtain ⟨y, hy⟩ : ∃ y, y = min (max x 0) 1152921504606846976 := ⟨_, rfl⟩
  rw [← hy]
  go_enter Tryd.func19, Tryd.ntmps19
  go_wp2_with fail
  all_goals go_ret
  all_goals subst hy
  all_goals refine ⟨rfl, ⟨?_, OwnR.nil _ _ _⟩, (Below.refl _ _).alloc (Nat.le_refl _) _⟩
  all_goals rw [heap_alloc_new]
  all_goals dsimp only
  · rw [show min (max x 0) 1152921504606846976 = 0 by omega]
  · rw [show min (max x 0) 1152921504606846976 = 1152921504606846976 by omega]
  · rw [show min (max x 0) 1152921504606846976 = x by omega]
set_option maxHeartbeats 2000000 in
theorem rlow_any (w : World) (g : Nat) (v : Value) (s : St) (H : Rb w g v s) : Calls Tryd.prog 39 #[.pointer (some ⟨g, 0, none⟩)] w fun e w' => e = .returned (.int .i64 s.lo) ∧ w' = w := by
  have c0 := H.c0
  clear H
  go_enter Tryd.func39, Tryd.ntmps39
  go_wp2_with fail
  go_ret
  exact ⟨rfl, rfl⟩
set_option maxHeartbeats 2000000 in
theorem rhigh_any (w : World) (g : Nat) (v : Value) (s : St) (H : Rb w g v s) : Calls Tryd.prog 36 #[.pointer (some ⟨g, 0, none⟩)] w fun e w' => e = .returned (.int .i64 s.hi) ∧ w' = w := by
  have c1 := H.c1
  clear H
  go_enter Tryd.func36, Tryd.ntmps36
  go_wp2_with fail
  go_ret
  exact ⟨rfl, rfl⟩
set_option maxHeartbeats 4000000 in
set_option maxRecDepth 100000 in
theorem rright_any (x : Ev) (w : World) (hp : x.p.size ≤ 1048576) : Calls Tryd.prog 54 #[x.val] w fun e w' => e = .returned (.bool (rightB x)) ∧ Below w.heap.size w w' := by
  obtain ⟨v, k, g, p, n⟩ := x
  simp only at hp
  obtain ⟨S, hS⟩ : ∃ S, S = rightB ⟨v, k, g, p, n⟩ := ⟨_, rfl⟩
  have ES : Aside (S = (decide (0 ≤ k) && (decide (k ≤ 4) && (decide (L.splitE p = 0) && (if k = 0 then decide (n.size = 0) else L.nameB n))))) := hS
  rw [← hS]
  clear hS
  unfold Ev.val
  simp only
  obtain ⟨X, hX⟩ : ∃ X, X = w.alloc (.cells #[.int .i64 v, .int .i64 k, .bool g, .string p, .string n] 33) := ⟨_, rfl⟩
  have AX : Hid (Below w.heap.size w X ∧ True) := Lib.hid (by
    have hb : Below w.heap.size w X := by rw [hX]; exact (Below.refl _ w).alloc (Nat.le_refl _) _
    exact ⟨hb, trivial⟩)
  have CX : Hid (∀ W, Below X.heap.size X W → ∀ i y, #[Value.int .i64 v, .int .i64 k, .bool g, .string p, .string n][i]? = some y → W.cell? ⟨w.heap.size, i, none⟩ = some y) := Lib.hid fun W hb i y h => by
    have h1 : X.cell? ⟨w.heap.size, i, none⟩ = some y := by rw [hX, World.cell?_alloc_new]; exact h
    rw [hb.cell (block_lt_of_cell h1)]; exact h1
  have c1 : X.cell? ⟨w.heap.size, 1, none⟩ = some (.int .i64 k) := CX.out X (Below.refl _ _) 1 _ rfl
  have c3 : X.cell? ⟨w.heap.size, 3, none⟩ = some (.string p) := CX.out X (Below.refl _ _) 3 _ rfl
  have PA := Lib.hid (L.refPath_any p X hp)
  have NA := Lib.hid (L.refName_any n)
  have TN := Lib.hid (text_nil n)
  have hX' := hX.symm
  clear hX hp
  go_enter Tryd.func54, Tryd.ntmps54
  by_cases h1 : k < 0
  · have E : Hid (S = false) := Lib.hid (by rw [ES.out, decide_eq_false (show ¬ 0 ≤ k by omega)]; rfl)
    go_wp2_with fail
    go_ret
    exact ⟨by rw [E.out]; rfl, AX.out.1⟩
  · by_cases h2 : k > 4
    · have E : Hid (S = false) := Lib.hid (by rw [ES.out, decide_eq_false (show ¬ k ≤ 4 by omega), Bool.false_and, Bool.and_false])
      go_wp2_with fail
      go_ret
      exact ⟨by rw [E.out]; rfl, AX.out.1⟩
    · have E0 : Hid (S = (decide (L.splitE p = 0) && (if k = 0 then decide (n.size = 0) else L.nameB n))) := Lib.hid (by rw [ES.out, decide_eq_true (show 0 ≤ k by omega), decide_eq_true (show k ≤ 4 by omega)]; simp)
      go_wp2_with fail
      refine PA.out.mono ?_
      rintro e w1 ⟨rfl, hb⟩
      have B1 := Lib.hid (AX.out.1.trans (hb.mono AX.out.1.size))
      have d1 : w1.cell? ⟨w.heap.size, 1, none⟩ = some (.int .i64 k) := CX.out w1 hb 1 _ rfl
      have d4 : w1.cell? ⟨w.heap.size, 4, none⟩ = some (.string n) := CX.out w1 hb 4 _ rfl
      clear hb PA c1 c3 CX
      by_cases h3 : L.splitE p = 0
      · have g3 : (L.splitE p == 0) = true := by rw [beq_iff_eq]; exact h3
        by_cases h4 : k = 0
        · have E : Hid (S = decide (n.size = 0)) := Lib.hid (by rw [E0.out, decide_eq_true h3, if_pos h4]; rfl)
          clear h3
          subst h4
          go_wp2_with fail
          go_ret
          exact ⟨by rw [E.out, ← TN.out]; rfl, B1.out⟩
        · have E : Hid (S = L.nameB n) := Lib.hid (by rw [E0.out, decide_eq_true h3, if_neg h4]; rfl)
          have g4 : (k == 0) = false := by rw [beq_eq_false_iff_ne]; exact h4
          clear h3 h4
          go_wp2_with fail
          refine (NA.out w1).mono ?_
          rintro e w2 ⟨rfl, rfl⟩
          have B2 := B1
          go_wp2_with fail
          go_ret
          exact ⟨by rw [E.out]; rfl, B2.out⟩
      · have g3 : (L.splitE p == 0) = false := by rw [beq_eq_false_iff_ne]; exact h3
        have E : Hid (S = false) := Lib.hid (by rw [E0.out, decide_eq_false h3]; rfl)
        clear h3
        go_wp2_with fail
        go_ret
        exact ⟨by rw [E.out]; rfl, B1.out⟩
set_option maxHeartbeats 8000000 in
set_option maxRecDepth 100000 in
theorem rof_any (ver : Int) (path : ByteArray) (w : World) (g : Nat) (v : Value) (s : St) (H : Rb w g v s) (hz : ∀ e ∈ s.es, e.p.size ≤ 1048576) (hl : s.es.length ≤ 1000) :
    Calls Tryd.prog 56 #[.pointer (some ⟨g, 0, none⟩), .int .i64 ver, .string path] w fun e w' => ∃ v', e = .returned v' ∧ OwnR kE w.heap.size w' v' (s.es.filter fun e => decide (e.v = ver) && L.underB e.p path) ∧ Below w.heap.size w w' := by
  obtain ⟨lo, hi, l⟩ := s
  simp only at hz hl ⊢
  have HH := Lib.hid H
  have SZ := Lib.hid hz
  obtain ⟨a, cap, rfl, hlc, hcm⟩ := (H.row.row okE).len
  unfold maxLen at hcm
  simp only at hlc HH
  clear H hz
  obtain ⟨n, hn⟩ : ∃ n, n = l.length := ⟨_, rfl⟩
  rw [← hn] at hlc HH hl
  have HN := Lib.hid hn
  clear hn
  go_enter Tryd.func56, Tryd.ntmps56
  go_wp2_with fail
  go_loopg [7, 8] n (fun gk so si wr => ∃ (k : Nat) (a' : Option Addr) (m c : Nat), k ≤ n ∧ gk = n - k ∧ si = .int .i64 k ∧ so = .slice a' m c ∧ Hid (OwnR kE w.heap.size wr (.slice a' m c) ((l.take k).filter fun e => decide (e.v = ver) && L.underB e.p path) ∧ Below w.heap.size w wr))
  case atStart => exact ⟨0, none, 0, 0, Nat.zero_le _, rfl, rfl, rfl, Lib.hid ⟨OwnR.nil _ _ _, Below.refl _ _⟩⟩
  case round =>
    obtain ⟨k, a', m, c, hk, hgk, rfl, rfl, R⟩ := hrel
    have G := Lib.hid hgk
    clear hgk
    have h2 := (HH.out.below R.out.2).c2
    by_cases hlt : k < n
    · have hlt' : (k : Int) < (n : Int) := by omega
      have hkl : k < l.length := by rw [← HN.out]; exact hlt
      have FT := Lib.hid (filter_take (fun e => decide (e.v = ver) && L.underB e.p path) l k hkl)
      have LZ : Hid ((((l.take k).filter fun e => decide (e.v = ver) && L.underB e.p path).length + 1) * kE.b ≤ 140737488355328) := Lib.hid (by
        have := filter_le (fun e => decide (e.v = ver) && L.underB e.p path) l k
        show (_ + 1) * 56 ≤ _
        omega)
      have ES := Lib.hid (SZ.out _ (getD_in (d := Ev.z) hkl))
      obtain ⟨b, off, rfl, c0, c1, c2, c3, c4⟩ := row_at ((HH.out.below R.out.2).row.row okE) k hkl
      have CB : Hid (∀ W : World, Below wr.heap.size wr W → W.cell? ⟨g, 2, none⟩ = some (.slice (some ⟨b, off, none⟩) n cap) ∧ ∀ i y, (kE.c (l.getD k Ev.z))[i]? = some y → W.cell? ⟨b, off + k * 5 + i, none⟩ = some y) := Lib.hid fun W hb => by
        have hh := HH.out.below (R.out.2.trans (hb.mono R.out.2.size))
        refine ⟨hh.c2, fun i y hy => ?_⟩
        obtain ⟨b', off', eb, hc⟩ := (hh.row.row okE).at k hkl
        simp only [Option.some.injEq, Addr.mk.injEq, and_true] at eb
        obtain ⟨rfl, rfl⟩ := eb
        exact hc i y hy
      obtain ⟨y, hy⟩ : ∃ y, y = l.getD k Ev.z := ⟨_, rfl⟩
      rw [← hy] at c0 c1 c2 c3 c4 FT CB ES
      clear hy hkl
      obtain ⟨yv, yk, yg, yp, yn⟩ := y
      simp only at c0 c1 c2 c3 c4 FT ES
      have UA := Lib.hid (runder_anyB yp path wr ES.out)
      by_cases hv : yv = ver
      · subst hv
        go_wp2_with fail
        refine UA.out.mono ?_
        rintro e w1 ⟨rfl, hb⟩
        have B1 : Hid (Below w.heap.size w w1 ∧ OwnR kE w.heap.size w1 (.slice a' m c) ((l.take k).filter fun e => decide (e.v = yv) && L.underB e.p path)) := Lib.hid ⟨R.out.2.trans (hb.mono R.out.2.size), R.out.1.below hb⟩
        have z2 := (CB.out w1 hb).1
        have y0 : w1.cell? ⟨b, off + k * 5, none⟩ = some (.int .i64 yv) := (CB.out w1 hb).2 0 _ rfl
        have y1 : w1.cell? ⟨b, off + k * 5 + 1, none⟩ = some (.int .i64 yk) := (CB.out w1 hb).2 1 _ rfl
        have y2 : w1.cell? ⟨b, off + k * 5 + 2, none⟩ = some (.bool yg) := (CB.out w1 hb).2 2 _ rfl
        have y3 : w1.cell? ⟨b, off + k * 5 + 3, none⟩ = some (.string yp) := (CB.out w1 hb).2 3 _ rfl
        have y4 : w1.cell? ⟨b, off + k * 5 + 4, none⟩ = some (.string yn) := (CB.out w1 hb).2 4 _ rfl
        clear hb CB UA c0 c1 c2 c3 c4 h2 R
        by_cases hu : L.underB yp path = true
        · rw [hu]
          have F2 := Lib.hid (FT.out.trans (by rw [if_pos (by simp [hu])]))
          go_wp2_with (at_builtin; refine app_rowB okE (gg := w1.heap.size) rfl _ _ rfl rfl B1.out.2 B1.out.1.size ⟨yv, yk, yg, yp, yn⟩ rfl rfl rfl LZ.out ?_; intro v' w' h1 h2)
          obtain ⟨a2, d2, rfl⟩ := h1.slice
          have A : Hid (OwnR kE w.heap.size w' (.slice a2 _ d2) ((l.take (k + 1)).filter fun e => decide (e.v = yv) && L.underB e.p path) ∧ Below w.heap.size w w') := Lib.hid ⟨by rw [F2.out]; exact h1, B1.out.1.grown h2 B1.out.1.size (fun j hj => (B1.out.2.lt j hj).1)⟩
          clear h1 h2
          go_wp2_with fail
          go_roundg (n - (k + 1))
          case measure => have := G.out; omega
          case rel => exact ⟨k + 1, a2, _, d2, by omega, rfl, by go_num, rfl, A⟩
        · have hu' : L.underB yp path = false := by simpa using hu
          have F2 := Lib.hid (FT.out.trans (by rw [if_neg (by simp [hu']), List.append_nil]))
          rw [hu']
          go_wp2_with fail
          go_roundg (n - (k + 1))
          case measure => have := G.out; omega
          case rel => exact ⟨k + 1, a', m, c, by omega, rfl, by go_num, rfl, Lib.hid ⟨by rw [F2.out]; exact B1.out.2, B1.out.1⟩⟩
      · have gv : (yv == ver) = false := by rw [beq_eq_false_iff_ne]; exact hv
        have F2 := Lib.hid (FT.out.trans (by rw [if_neg (by simp [hv]), List.append_nil]))
        clear hv
        go_wp2_with fail
        go_roundg (n - (k + 1))
        case measure => have := G.out; omega
        case rel => exact ⟨k + 1, a', m, c, by omega, rfl, by go_num, rfl, Lib.hid ⟨by rw [F2.out]; exact R.out.1, R.out.2⟩⟩
    · have E : Hid (l.take k = l) := Lib.hid (List.take_of_length_le (by rw [← HN.out]; omega))
      go_wp2_with fail
      go_ret
      exact ⟨_, rfl, by have := R.out.1; rw [E.out] at this; exact this, R.out.2⟩
end Wt
end Go.Proofs.YtfkoiehnkelpoaaDoor
