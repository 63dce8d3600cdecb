/-
  The laws' hands: sameParts of the same.
-/
import Derived.Test.YtibjmmfodelhjaaDoorScH
import Derived.Test.YtibjmmfodelhjaaDoorScN
namespace Go.Proofs.YtibjmmfodelhjaaDoor
open Go.RowKit
open Go.Sort (grow)
set_option maxHeartbeats 4000000 in
set_option maxRecDepth 100000 in
theorem sameParts_yes (op on : ByteArray) (opr odl over : Int) (la : Option Addr) (ln lc : Nat) (pa : Option Addr) (pn pc : Nat) (qp qn : ByteArray) (qpr qdl qver : Int) (la' : Option Addr) (ln' lc' : Nat) (pa' : Option Addr) (pc' : Nat) (ops : List Pt) (w : World)
    (hn : pn = ops.length) (h1 : Pts w (.slice pa pn pc) ops) (h2 : Pts w (.slice pa' pn pc') ops) :
    Calls Tryd.prog 19 #[.agg #[.string op, .string on, .slice la ln lc, .int .i64 opr, .int .i64 odl, .slice pa pn pc, .int .i64 over], .agg #[.string qp, .string qn, .slice la' ln' lc', .int .i64 qpr, .int .i64 qdl, .slice pa' pn pc', .int .i64 qver]] w fun e w' => e = .returned (.bool true) ∧ Below w.heap.size w w' := by
  have U := Lib.hid h1
  have U' := Lib.hid h2
  have HN := Lib.hid hn
  obtain ⟨_, _, e1, hlc, hcm⟩ := h1.len
  simp only [Value.slice.injEq] at e1
  obtain ⟨_, _, e2, hlc', hcm'⟩ := h2.len
  simp only [Value.slice.injEq] at e2
  rw [← e1.2.2] at hlc hcm
  rw [← e2.2.2] at hlc' hcm'
  rw [← hn] at hlc hlc'
  unfold maxLen at hcm hcm'
  clear h1 h2 hn e1 e2
  obtain ⟨X, hX⟩ : ∃ X, X = (w.alloc (.cells #[.string op, .string on, .slice la ln lc, .int .i64 opr, .int .i64 odl, .slice pa pn pc, .int .i64 over] 25)).alloc (.cells #[.string qp, .string qn, .slice la' ln' lc', .int .i64 qpr, .int .i64 qdl, .slice pa' pn pc', .int .i64 qver] 25) := ⟨_, rfl⟩
  have BX : Hid (Below w.heap.size w X) := Lib.hid (by rw [hX]; have q := (below_alR w).out (.cells #[.string op, .string on, .slice la ln lc, .int .i64 opr, .int .i64 odl, .slice pa pn pc, .int .i64 over] 25); exact q.alloc q.size _)
  have KC : Hid (∀ W : World, Below X.heap.size X W → W.cell? ⟨w.heap.size, 5, none⟩ = some (.slice pa pn pc) ∧ W.cell? ⟨w.heap.size + 1, 5, none⟩ = some (.slice pa' pn pc') ∧ Below w.heap.size w W) := Lib.hid fun W hb => by
    have q : X.cell? ⟨w.heap.size, 5, none⟩ = some (.slice pa pn pc) := by rw [hX]; exact cell_al (by rw [World.cell?_alloc_new]; rfl) _
    have q2 : X.cell? ⟨w.heap.size + 1, 5, none⟩ = some (.slice pa' pn pc') := by
      have e : w.heap.size + 1 = (w.alloc (.cells #[.string op, .string on, .slice la ln lc, .int .i64 opr, .int .i64 odl, .slice pa pn pc, .int .i64 over] 25)).heap.size := by simp
      rw [hX, e, World.cell?_alloc_new]; rfl
    exact ⟨(hb.cell (block_lt_of_cell q)).trans q, (hb.cell (block_lt_of_cell q2)).trans q2, BX.out.trans (hb.mono BX.out.size)⟩
  have EX := Lib.hid hX
  clear hX
  go_enter Tryd.func19, Tryd.ntmps19
  go_wp2_with fail
  rw [← EX.out]
  clear EX
  go_loopg [5] pn (fun g si wr => ∃ (k : Nat), k ≤ pn ∧ g = pn - k ∧ si = .int .i64 k ∧ Below X.heap.size X wr)
  case atStart => exact ⟨0, Nat.zero_le _, rfl, rfl, Below.refl _ _⟩
  case round =>
    obtain ⟨k, hk, hg, rfl, hb⟩ := hrel
    have R : Hid (gk = pn - k ∧ Below X.heap.size X wr) := Lib.hid ⟨hg, hb⟩
    obtain ⟨k5, m5, fw⟩ := KC.out wr hb
    have FW := Lib.hid fw
    clear hg hb fw
    by_cases hlt : k < pn
    · have hlt' : (k : Int) < (pn : Int) := by omega
      obtain ⟨b, off, ra, rb, rfl, p0, p1, p2, ha, hb1⟩ := (U.out.below FW.out).at k (by rw [← HN.out]; exact hlt)
      obtain ⟨b', off', ra', rb', rfl, q0, q1, q2, ha', hb1'⟩ := (U'.out.below FW.out).at k (by rw [← HN.out]; exact hlt)
      obtain ⟨⟨xn, xr, xl⟩, hx⟩ : ∃ x, x = ops.getD k ⟨⟨#[]⟩, [], []⟩ := ⟨_, rfl⟩
      rw [← hx] at p0 q0 ha hb1 ha' hb1'
      obtain ⟨ra1, ra2, ra3⟩ := ra
      obtain ⟨rb1, rb2, rb3⟩ := rb
      obtain ⟨sa1, sa2, sa3⟩ := ra'
      obtain ⟨sb1, sb2, sb3⟩ := rb'
      unfold Sl.v at p1 p2 q1 q2 ha hb1 ha' hb1'
      simp only at p0 p1 p2 q0 q1 q2 ha hb1 ha' hb1'
      have r0 := reg p0
      have r1 := reg p1
      have r2 := reg p2
      have s0 := reg q0
      have s1 := reg q1
      have s2 := reg q2
      have t0 := reg k5
      have t1 := reg m5
      have g0 : (xn.toList == xn.toList) = true := by simp
      have xB : Hid (∀ (dq : Nat) (os : Array Obj), Below wr.heap.size wr (grow (redrawn wr dq) os)) := Lib.hid fun dq os => below_regrown wr dq os
      have xQ : Hid (∀ u u' d os, (u = .slice ra1 ra2 ra3 ∧ u' = .slice sa1 sa2 sa3) ∨ (u = .slice rb1 rb2 rb3 ∧ u' = .slice sb1 sb2 sb3) → Calls Tryd.prog 12 #[u, u'] (grow (redrawn wr d) os) fun e w'' => e = .returned (.bool true) ∧ ∃ p : Regrown, w'' = grow (redrawn wr p.d) p.os) := Lib.hid fun u u' d os h => by
        rcases h with ⟨rfl, rfl⟩ | ⟨rfl, rfl⟩
        · exact Calls.regrown_of (sameAmounts_yes _ _ xr _ (ha.below (xB.out d os)) (ha'.below (xB.out d os)))
        · exact Calls.regrown_of (sameAmounts_yes _ _ xl _ (hb1.below (xB.out d os)) (hb1'.below (xB.out d os)))
      clear hx p0 p1 p2 q0 q1 q2 ha hb1 ha' hb1'
      go_wp2_with fail
      refine wp_region_quiet_below (by kernel_rfl) (by kernel_rfl) ?_
      repeat (go_big_quiet_step (refine xQ.out _ _ _ _ (by first | exact Or.inl ⟨rfl, rfl⟩ | exact Or.inr ⟨rfl, rfl⟩)))
      refine wpQuiet_nil ?_
      intro _ hw'
      obtain ⟨⟨dq, osq⟩, hw''⟩ := hw'
      subst hw''
      have xx := Lib.hid (R.out.2.trans ((xB.out dq osq).mono R.out.2.size))
      clear r0 r1 r2 s0 s1 s2 t0 t1 xB xQ k5 m5
      obtain ⟨W, hW⟩ : ∃ W, W = grow (redrawn wr dq) osq := ⟨_, rfl⟩
      rw [← hW] at xx ⊢
      clear hW
      go_wp2_with fail
      go_roundg (pn - (k + 1))
      case measure => have := R.out.1; omega
      case rel => exact ⟨k + 1, by omega, rfl, by go_num, xx.out⟩
    · go_wp2_with fail
      go_ret
      exact ⟨rfl, FW.out⟩
end Go.Proofs.YtibjmmfodelhjaaDoor
