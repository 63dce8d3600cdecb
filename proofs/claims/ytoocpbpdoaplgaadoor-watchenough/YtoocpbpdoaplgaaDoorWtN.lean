/-
  pieces.
-/
import Derived.Test.YtoocpbpdoaplgaaDoorWtL
import Derived.BigQuiet
namespace Go.Proofs.YtoocpbpdoaplgaaDoor
open Go.RowKit
namespace Wt
theorem sinE_path {s : St} {ver most : Int} {path : ByteArray} (hm : 1 ≤ most ∧ most ≤ 100) (h : L.splitE path ≠ 0) : sinE s ver path most = 41 := by
  unfold sinE; rw [if_neg (by omega), if_pos h]
theorem sinE_ok {s : St} {ver most : Int} {path : ByteArray} (hm : 1 ≤ most ∧ most ≤ 100) (h : L.splitE path = 0) (hv : s.lo ≤ ver ∧ ver ≤ s.hi) : sinE s ver path most = 0 := by
  unfold sinE; rw [if_neg (by omega), if_neg (by simpa using h), if_neg (by omega), if_neg (by omega)]
set_option maxHeartbeats 32000000 in
set_option maxRecDepth 100000 in
theorem pieces_any (m : Ev) (w0 w : World) (gp g : Nat) (v vL : Value) (f : Int) (s : St) (A : List Ev) (hG : Gl m w0) (hP : Pd w0 w gp g v vL f s A) (ver : Int) (path : ByteArray) (most : Int) (hv : s.lo ≤ ver ∧ ver ≤ s.hi) (hm : 1 ≤ most ∧ most ≤ 100) :
    Calls Tryd.prog 13 #[.pointer (some ⟨gp, 0, none⟩), .int .i64 ver, .string path, .int .i64 most] w fun e w' => ∃ a n c, e = .returned (.tuple #[.slice a n c, .bool (decide (L.splitE path = 0))]) ∧ Below w.heap.size w w' ∧ (L.splitE path = 0 → OwnR kE w.heap.size w' (.slice a n c) (inL s ver path)) := by
  have G := Lib.hid hG
  have P0 := Lib.hid hP
  have OK := Lib.hid hP.h.ok
  obtain ⟨m0, m1⟩ := hm
  obtain ⟨b0, b1, b2⟩ := hP.h.ok.b
  have PX : Hid (∀ W : World, Below w.heap.size w W → Pd w0 W gp g v vL f s A ∧ L.HasM W) := Lib.hid fun W hb => ⟨P0.out.below hb, (G.out.below (P0.out.below hb).h.be).hm⟩
  clear hG hP
  obtain ⟨hi, hhi⟩ : ∃ x, x = s.hi := ⟨_, rfl⟩
  have HI := Lib.hid hhi
  have hv0 : 0 ≤ ver := by omega
  have hv1 : ver ≤ hi := by omega
  have hv2 : hi ≤ 1152921504606846976 := by omega
  have HV := Lib.hid hv
  clear hhi hv b0 b1 b2
  by_cases hp : L.splitE path = 0
  · rw [decide_eq_true hp]
    go_enter Tryd.func13, Tryd.ntmps13
    go_wp2_with fail
    go_loopg [1, 10, 11] 1000 (fun gk sv sa si wr => ∃ (k : Nat) (x : Int) (all : List Ev) (a1 : Option Addr) (n1 c1 : Nat), gk = 1000 - k ∧ sv = .int .i64 x ∧ sa = .slice a1 n1 c1 ∧ si = .int .i64 k ∧ Hid (Pc s ver path k x all ∧ OwnR kE w.heap.size wr (.slice a1 n1 c1) all ∧ Below w.heap.size w wr))
    case atStart => exact ⟨0, ver, [], none, 0, 0, rfl, rfl, rfl, rfl, Lib.hid ⟨Pc.zero OK.out path (by have := HI.out; omega), OwnR.nil _ _ _, Below.refl _ _⟩⟩
    case round =>
      obtain ⟨k, x, all, a1, n1, c1, hgk, rfl, rfl, rfl, R⟩ := hrel
      have GK := Lib.hid hgk
      clear hgk
      have FW := Lib.hid (Pc.few OK.out R.out.1)
      have hk : (k : Int) < 1000 := by have := FW.out.1; omega
      have hx0 : ver ≤ x := R.out.1.b.1
      have hx1 : x ≤ hi := by have := R.out.1.b.2; have := HI.out; omega
      have c0 := (PX.out wr R.out.2.2).1.c0
      have SE := Lib.hid (sinE_ok (s := s) (ver := x) ⟨m0, m1⟩ hp (by have := HI.out; have := HV.out; omega))
      have SC := Lib.hid (since_any wr g v s x path most (PX.out wr R.out.2.2).2 (PX.out wr R.out.2.2).1.h.h OK.out)
      rw [SE.out] at SC
      obtain ⟨y, hy⟩ : ∃ y, y = sinV s x path most := ⟨_, rfl⟩
      have VG := sinV_ge OK.out x path most (by have := HI.out; omega)
      rw [← hy] at VG
      obtain ⟨vg0, vg1⟩ := VG
      rw [← HI.out] at vg1
      have HY := Lib.hid hy
      clear hy
      go_wp2_with fail
      refine SC.out.mono ?_
      rintro e w1 ⟨a2, n2, c2, x2, rfl, hb, -, hs⟩
      obtain ⟨ho, hx2⟩ := hs SE.out
      rw [← HY.out] at hx2
      have hx2' := hx2.symm
      subst hx2'
      obtain ⟨l, hl⟩ : ∃ l, l = sinL s x path most := ⟨_, rfl⟩
      rw [← hl] at ho
      have W1 : Hid (Below w.heap.size w w1 ∧ OwnR kE w.heap.size w1 (.slice a1 n1 c1) all ∧ OwnR kE wr.heap.size w1 (.slice a2 n2 c2) l) := Lib.hid ⟨R.out.2.2.trans (hb.mono R.out.2.2.size), R.out.2.1.below hb, ho⟩
      have HL : Hid (l = sinL s x path most ∧ n2 = l.length ∧ l.length ≤ 128) := Lib.hid ⟨hl, by obtain ⟨q1, q2, e⟩ := ho.slice; simp only [Value.slice.injEq] at e; exact e.2.1, by rw [hl]; exact sinL_len OK.out _ _ _⟩
      clear hb hs ho hl SC c0
      have hn2 : n2 ≤ 128 := by have := HL.out; omega
      have c0 := (PX.out w1 W1.out.1).1.c0
      have HG := Lib.hid (high_any w1 g v s (PX.out w1 W1.out.1).1.h.h)
      rw [← HI.out] at HG
      have CT := Lib.hid (cut_of OK.out x path most m0)
      go_wp2_with fail
      refine HG.out.mono ?_
      rintro e w2 ⟨rfl, rfl⟩
      clear HG
      rcases Nat.eq_zero_or_pos n2 with hz | hz
      · have EL : Hid (y = hi) := Lib.hid (by
          rcases CT.out.e with q | q
          · rw [HY.out, HI.out]; exact q
          · have := HL.out; rw [← this.1, ← this.2.1] at q; omega)
        have hq : decide (most < (n2 : Int)) = false := decide_eq_false (by omega)
        have hz0 : ¬ (n2 : Int) > 0 := by omega
        have LA : Hid ((all.length + l.length) * kE.b ≤ 140737488355328) := Lib.hid (by
          have h1 := FW.out.2
          have h2 := HL.out.2.2
          show _ * 56 ≤ _
          omega)
        have HZ := Lib.hid hz
        clear hz
        go_wp2_with fail
        go_quiet (fail)
        have W3 : Hid (Below w.heap.size w (w2.drewN nq) ∧ OwnR kE w.heap.size (w2.drewN nq) (.slice a1 n1 c1) all ∧ OwnR kE wr.heap.size (w2.drewN nq) (.slice a2 n2 c2) l) := Lib.hid ⟨W1.out.1.trans ((below_drawn w2 nq).mono W1.out.1.size), W1.out.2.1.below (below_drawn w2 nq), W1.out.2.2.below (below_drawn w2 nq)⟩
        obtain ⟨W, hW⟩ : ∃ W, W = w2.drewN nq := ⟨_, rfl⟩
        rw [← hW] at W3 ⊢
        clear hW c0 W1
        go_wp2_with (first
          | (at_builtin; refine app_rows okE (B := w.heap.size) (v := .slice a1 n1 c1) (u := .slice a2 n2 c2) (l := all) (m := l) rfl _ _ rfl rfl W3.out.2.1 W3.out.1.size rfl (W3.out.2.2.row okE) LA.out ?_; intro v5 w5 h5 g5
             obtain ⟨n5, a5, c5, rfl⟩ : ∃ n1 a1 c1, v5 = .slice a1 n1 c1 := by (obtain ⟨a', c', e'⟩ := h5.slice; exact ⟨_, a', c', e'⟩)
             have W5 : Hid (Below w.heap.size w w5 ∧ OwnR kE w.heap.size w5 (.slice a5 n5 c5) (all ++ l)) := Lib.hid ⟨W3.out.1.grown g5 W3.out.1.size (fun j hj => (W3.out.2.1.lt j hj).1), h5⟩
             clear h5 g5 W3
             have c5' := (PX.out w5 W5.out.1).1.c0))
        have HG := Lib.hid (high_any w5 g v s (PX.out w5 W5.out.1).1.h.h)
        rw [← HI.out] at HG
        have FI := Lib.hid (R.out.1.done OK.out m0 (by rw [← HY.out, EL.out]; exact HI.out))
        have ey := EL.out
        subst ey
        go_wp2_with fail
        refine HG.out.mono ?_
        rintro e w6 ⟨rfl, rfl⟩
        go_wp2_with fail
        go_ret2
        exact ⟨_, _, _, rfl, W5.out.1, fun _ => by have h := W5.out.2; rw [HL.out.1, FI.out] at h; exact h⟩
      · obtain ⟨bb, off, rfl, k0, -⟩ := row_at (W1.out.2.2.row okE) 0 (by rw [← HL.out.2.1]; exact hz)
        obtain ⟨M, hM⟩ : ∃ M, n2 = M + 1 := ⟨n2 - 1, by omega⟩
        obtain ⟨bb', off', eb, k1, -⟩ := row_at (W1.out.2.2.row okE) M (by rw [← HL.out.2.1]; omega)
        simp only [Option.some.injEq, Addr.mk.injEq, and_true] at eb
        obtain ⟨rfl, rfl⟩ := eb
        simp only [Nat.zero_mul, Nat.add_zero] at k0
        obtain ⟨z0, hz0⟩ : ∃ z, z = (l.getD 0 Ev.z).v := ⟨_, rfl⟩
        obtain ⟨z1, hz1⟩ : ∃ z, z = (l.getD (l.length - 1) Ev.z).v := ⟨_, rfl⟩
        have eM : l.length - 1 = M := by rw [← HL.out.2.1]; omega
        rw [← hz0] at k0
        rw [← eM, ← hz1, eM] at k1
        have HZ : Hid (z0 = (l.getD 0 Ev.z).v ∧ z1 = (l.getD (l.length - 1) Ev.z).v ∧ x < z0 ∧ z1 ≤ y) := Lib.hid ⟨hz0, hz1, by
          rw [hz0, HL.out.1]
          exact (sinL_mem OK.out (getD_mem (by rw [← HL.out.1, ← HL.out.2.1]; exact hz))).1, by
          rw [hz1, HL.out.1, HY.out]
          exact sinL_last OK.out m0 (getD_mem (by rw [← HL.out.1, ← HL.out.2.1]; omega))⟩
        have q0 : ¬ z0 ≤ x := by have := HZ.out; omega
        have q1 : ¬ z1 > y := by have := HZ.out; omega
        have hwr : IntKind.i64.wrap ((n2 : Int) - 1) = (M : Int) := by rw [show (n2 : Int) - 1 = (M : Int) by omega, IntKind.wrap_i64]; omega
        have hp0 : (n2 : Int) > 0 := by omega
        have hp1 : (0 : Int) < (n2 : Int) := by omega
        have hM0 : (0 : Int) ≤ (M : Int) := by omega
        have hM1 : (M : Int) < (n2 : Int) := by omega
        have gz : ((n2 : Int) == 0) = false := by rw [beq_eq_false_iff_ne]; omega
        have LA : Hid ((all.length + l.length) * kE.b ≤ 140737488355328) := Lib.hid (by
          have h1 := FW.out.2
          have h2 := HL.out.2.2
          show _ * 56 ≤ _
          omega)
        have HM := Lib.hid (And.intro hM eM)
        clear hM eM hz0 hz1 hz
        by_cases hq : most < (n2 : Int)
        · have hqd : decide (most < (n2 : Int)) = true := decide_eq_true hq
          have ez : z0 = z1 := by
            rw [HZ.out.1, HZ.out.2.1]
            have := CT.out.m
            rw [← HL.out.1] at this
            exact this (by rw [← HL.out.2.1]; exact hq)
          subst ez
          go_wp2_with fail
          go_quiet (fail)
          have W3 : Hid (Below w.heap.size w (w2.drewN nq) ∧ OwnR kE w.heap.size (w2.drewN nq) (.slice a1 n1 c1) all ∧ OwnR kE wr.heap.size (w2.drewN nq) (.slice (some ⟨bb, off, none⟩) n2 c2) l) := Lib.hid ⟨W1.out.1.trans ((below_drawn w2 nq).mono W1.out.1.size), W1.out.2.1.below (below_drawn w2 nq), W1.out.2.2.below (below_drawn w2 nq)⟩
          obtain ⟨W, hW⟩ : ∃ W, W = w2.drewN nq := ⟨_, rfl⟩
          have k0' : W.cell? ⟨bb, off, none⟩ = some (.int .i64 z0) := by rw [hW]; exact k0
          have k1' : W.cell? ⟨bb, off + M * 5, none⟩ = some (.int .i64 z0) := by rw [hW]; exact k1
          have c0' : W.cell? ⟨gp, 0, none⟩ = some (.pointer (some ⟨g, 0, none⟩)) := by rw [hW]; exact c0
          rw [← hW] at W3 ⊢
          clear hW c0 k0 k1 W1
          go_wp2_with (first
            | (at_builtin; refine app_rows okE (B := w.heap.size) (v := .slice a1 n1 c1) (u := .slice (some ⟨bb, off, none⟩) n2 c2) (l := all) (m := l) rfl _ _ rfl rfl W3.out.2.1 W3.out.1.size rfl (W3.out.2.2.row okE) LA.out ?_; intro v5 w5 h5 g5
               obtain ⟨n5, a5, c5, rfl⟩ : ∃ n1 a1 c1, v5 = .slice a1 n1 c1 := by (obtain ⟨a', c', e'⟩ := h5.slice; exact ⟨_, a', c', e'⟩)
               have W5 : Hid (Below w.heap.size w w5 ∧ OwnR kE w.heap.size w5 (.slice a5 n5 c5) (all ++ l)) := Lib.hid ⟨W3.out.1.grown g5 W3.out.1.size (fun j hj => (W3.out.2.1.lt j hj).1), h5⟩
               have k5 : w5.cell? ⟨bb, off + M * 5, none⟩ = some (.int .i64 z0) := g5.cell k1' (fun e => by
                 have q1 := (W3.out.2.1.lt bb e.symm).2
                 have q2 := (R.out.2.1.lt bb e.symm).2
                 have q3 := (W3.out.2.2.lt bb rfl).1
                 omega)
               clear h5 g5 k0' k1' c0' W3
               have c5' := (PX.out w5 W5.out.1).1.c0))
          have HG := Lib.hid (high_any w5 g v s (PX.out w5 W5.out.1).1.h.h)
          rw [← HI.out] at HG
          go_wp2_with fail
          refine HG.out.mono ?_
          rintro e w6 ⟨rfl, rfl⟩
          clear HG
          by_cases he : y = hi
          · subst he
            have FI := Lib.hid (R.out.1.done OK.out m0 (by rw [← HY.out]; exact HI.out))
            go_wp2_with fail
            go_ret2
            exact ⟨_, _, _, rfl, W5.out.1, fun _ => by have h := W5.out.2; rw [HL.out.1, FI.out] at h; exact h⟩
          · have ge : (y == hi) = false := by rw [beq_eq_false_iff_ne]; exact he
            have NX := R.out.1.next OK.out m0 (by rw [← HY.out, ← HI.out]; exact he)
            rw [← HL.out.1, ← HY.out] at NX
            have ez : z0 = y := by rw [HZ.out.2.1]; exact NX.2.1
            subst ez
            have PN := Lib.hid NX.2.2
            clear NX he
            go_wp2_with fail
            go_roundg (1000 - (k + 1))
            case measure => have := GK.out; have := FW.out; omega
            case rel => exact ⟨k + 1, _, all ++ l, a5, n5, c5, rfl, rfl, rfl, by go_num, Lib.hid ⟨PN.out, W5.out.2, W5.out.1⟩⟩
        · have hqd : decide (most < (n2 : Int)) = false := decide_eq_false hq
          go_wp2_with fail
          go_quiet (fail)
          have W3 : Hid (Below w.heap.size w (w2.drewN nq) ∧ OwnR kE w.heap.size (w2.drewN nq) (.slice a1 n1 c1) all ∧ OwnR kE wr.heap.size (w2.drewN nq) (.slice (some ⟨bb, off, none⟩) n2 c2) l) := Lib.hid ⟨W1.out.1.trans ((below_drawn w2 nq).mono W1.out.1.size), W1.out.2.1.below (below_drawn w2 nq), W1.out.2.2.below (below_drawn w2 nq)⟩
          obtain ⟨W, hW⟩ : ∃ W, W = w2.drewN nq := ⟨_, rfl⟩
          have k0' : W.cell? ⟨bb, off, none⟩ = some (.int .i64 z0) := by rw [hW]; exact k0
          have k1' : W.cell? ⟨bb, off + M * 5, none⟩ = some (.int .i64 z1) := by rw [hW]; exact k1
          have c0' : W.cell? ⟨gp, 0, none⟩ = some (.pointer (some ⟨g, 0, none⟩)) := by rw [hW]; exact c0
          rw [← hW] at W3 ⊢
          clear hW c0 k0 k1 W1
          go_wp2_with (first
            | (at_builtin; refine app_rows okE (B := w.heap.size) (v := .slice a1 n1 c1) (u := .slice (some ⟨bb, off, none⟩) n2 c2) (l := all) (m := l) rfl _ _ rfl rfl W3.out.2.1 W3.out.1.size rfl (W3.out.2.2.row okE) LA.out ?_; intro v5 w5 h5 g5
               obtain ⟨n5, a5, c5, rfl⟩ : ∃ n1 a1 c1, v5 = .slice a1 n1 c1 := by (obtain ⟨a', c', e'⟩ := h5.slice; exact ⟨_, a', c', e'⟩)
               have W5 : Hid (Below w.heap.size w w5 ∧ OwnR kE w.heap.size w5 (.slice a5 n5 c5) (all ++ l)) := Lib.hid ⟨W3.out.1.grown g5 W3.out.1.size (fun j hj => (W3.out.2.1.lt j hj).1), h5⟩
               have k5 : w5.cell? ⟨bb, off + M * 5, none⟩ = some (.int .i64 z1) := g5.cell k1' (fun e => by
                 have q1 := (W3.out.2.1.lt bb e.symm).2
                 have q2 := (R.out.2.1.lt bb e.symm).2
                 have q3 := (W3.out.2.2.lt bb rfl).1
                 omega)
               clear h5 g5 k0' k1' c0' W3
               have c5' := (PX.out w5 W5.out.1).1.c0))
          have HG := Lib.hid (high_any w5 g v s (PX.out w5 W5.out.1).1.h.h)
          rw [← HI.out] at HG
          go_wp2_with fail
          refine HG.out.mono ?_
          rintro e w6 ⟨rfl, rfl⟩
          clear HG
          by_cases he : y = hi
          · subst he
            have FI := Lib.hid (R.out.1.done OK.out m0 (by rw [← HY.out]; exact HI.out))
            go_wp2_with fail
            go_ret2
            exact ⟨_, _, _, rfl, W5.out.1, fun _ => by have h := W5.out.2; rw [HL.out.1, FI.out] at h; exact h⟩
          · have ge : (y == hi) = false := by rw [beq_eq_false_iff_ne]; exact he
            have NX := R.out.1.next OK.out m0 (by rw [← HY.out, ← HI.out]; exact he)
            rw [← HL.out.1, ← HY.out] at NX
            have ez : z1 = y := by rw [HZ.out.2.1]; exact NX.2.1
            subst ez
            have PN := Lib.hid NX.2.2
            clear NX he
            go_wp2_with fail
            go_roundg (1000 - (k + 1))
            case measure => have := GK.out; have := FW.out; omega
            case rel => exact ⟨k + 1, _, all ++ l, a5, n5, c5, rfl, rfl, rfl, by go_num, Lib.hid ⟨PN.out, W5.out.2, W5.out.1⟩⟩
  · rw [decide_eq_false hp]
    go_enter Tryd.func13, Tryd.ntmps13
    go_wp2_with fail
    go_loopg [1, 11] 1000 (fun gk sv si wr => gk = 1000 ∧ sv = .int .i64 ver ∧ si = .int .i64 0 ∧ Hid (Below w.heap.size w wr))
    case atStart => exact ⟨rfl, rfl, rfl, Lib.hid (Below.refl _ _)⟩
    case round =>
      obtain ⟨hgk, rfl, rfl, R⟩ := hrel
      clear hgk
      have c0 := (PX.out wr R.out).1.c0
      have SE := Lib.hid (sinE_path (s := s) (ver := ver) ⟨m0, m1⟩ hp)
      have SC := Lib.hid (since_any wr g v s ver path most (PX.out wr R.out).2 (PX.out wr R.out).1.h.h OK.out)
      rw [SE.out] at SC
      have HP := Lib.hid hp
      clear hp
      go_wp2_with fail
      refine SC.out.mono ?_
      rintro e w1 ⟨a2, n2, c2, x2, rfl, hb, -, -⟩
      have B1 := Lib.hid (R.out.trans (hb.mono R.out.size))
      clear hb SC
      go_wp2_with fail
      go_ret2
      exact ⟨_, _, _, rfl, B1.out, fun q => absurd q HP.out⟩
end Wt
end Go.Proofs.YtoocpbpdoaplgaaDoor
