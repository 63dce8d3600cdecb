/-
  LeCh, LePl, LeRg, LeBk, joined.
-/
import Derived.Test.YtodfmnbfbndkhaaGreatDoorLeHm
import Derived.Test.YtodfmnbfbndkhaaGreatDoorLeZm
import Derived.BigQuiet
import Derived.Deep.MidRow
import Derived.Deep.RegionLaw
section S0
namespace Go.Proofs.YtodfmnbfbndkhaaGreatDoor
open Go.RowKit Go.Sort
namespace Le
variable {w W W' w0 : World} {t b n : Nat} {D : DataW Unit} {f : Ky → Int}
theorem release_lvk (o : Ob) (ls ps : Value) (H : Lv w0 w t b n D f) (hv : ObV w ls ps o) (hz : PSz o.ps) (hp : o.p.size ≤ 140737488355328) (hn : n ≤ 100000000000000) :
    Calls Tryz.prog 14 #[.pointer (some ⟨t, 0, none⟩), o.val ls ps] w fun e W' => ∃ D' n', e = .returned (.int .i64 (mvE false f o)) ∧ Lv w0 W' t b n' D' (mvF false f o) ∧ Kept (fun y => y = b) w W' ∧ n' ≤ n + (shR o).length := by
  refine (release_any o ls ps w t b n D f H.ld H.rep H.gl hv hz hp (fun _ => shOk_any o hz) hn).mono ?_
  rintro e W' ⟨D', n', rfl, h2, h3, h4, h5⟩
  exact ⟨D', n', rfl, H.turn h2 h3 (H.vf.mv hz) h4, h4, h5⟩
theorem kept_trans {F : Nat → Prop} {a c d : World} (h : Kept F a c) (k : Kept F c d) : Kept F a d := h.trans k (fun _ _ e => e)
/-- The whole of Change: what it answers, what it leaves. -/
def ChQ (w0 w : World) (t b n : Nat) (f : Ky → Int) (o p : Ob) (e : Ending) (W' : World) : Prop := ∃ D' n', e = .returned (.int .i64 (chE f o p)) ∧ Lv w0 W' t b n' D' (chG f o p) ∧ Kept (fun y => y = b) w W' ∧ n' ≤ n + 432000000
set_option maxHeartbeats 8000000 in
set_option maxRecDepth 100000 in
theorem change_lvk (o p : Ob) (la : Option Addr) (lc : Nat) (pa : Option Addr) (pc : Nat) (ma : Option Addr) (mc : Nat) (qa : Option Addr) (qc : Nat) (H : Lv w0 w t b n D f)
    (hv : ObV w (.slice la o.ls.length lc) (.slice pa o.ps.length pc) o) (hv2 : ObV w (.slice ma p.ls.length mc) (.slice qa p.ps.length qc) p)
    (hz : PSz o.ps) (hp : o.p.size ≤ 140737488355328) (hz2 : PSz p.ps) (hp2 : p.p.size ≤ 140737488355328) (hn : n ≤ 90000000000000) :
    Calls Tryz.prog 16 #[.pointer (some ⟨t, 0, none⟩), o.val (.slice la o.ls.length lc) (.slice pa o.ps.length pc), p.val (.slice ma p.ls.length mc) (.slice qa p.ps.length qc)] w (ChQ w0 w t b n f o p) := by
  have HH := Lib.hid H
  have V1 := Lib.hid hv
  have V2 := Lib.hid hv2
  have SZ := Lib.hid (And.intro hz (And.intro hp (And.intro hz2 hp2)))
  have L1 := Lib.hid (sh_len o hz)
  have L2 := Lib.hid (sh_len p hz2)
  have NN := Lib.hid hn
  obtain ⟨X, hX⟩ : ∃ X, X = (w.alloc (.cells #[.string o.p, .string o.n, .slice la o.ls.length lc, .int .i64 o.pr, .int .i64 o.dl, .slice pa o.ps.length pc, .int .i64 o.ver] 25)).alloc (.cells #[.string p.p, .string p.n, .slice ma p.ls.length mc, .int .i64 p.pr, .int .i64 p.dl, .slice qa p.ps.length qc, .int .i64 p.ver] 25) := ⟨_, rfl⟩
  have BX : Hid (Below w.heap.size w X) := Lib.hid (by rw [hX]; exact ((Below.refl _ _).alloc (Nat.le_refl _) _).alloc (by simp) _)
  have CX : Hid (X.heap[w.heap.size]? = some (.cells #[.string o.p, .string o.n, .slice la o.ls.length lc, .int .i64 o.pr, .int .i64 o.dl, .slice pa o.ps.length pc, .int .i64 o.ver] 25 (0, 0)) ∧ X.heap[w.heap.size + 1]? = some (.cells #[.string p.p, .string p.n, .slice ma p.ls.length mc, .int .i64 p.pr, .int .i64 p.dl, .slice qa p.ps.length qc, .int .i64 p.ver] 25 (0, 0))) := Lib.hid (by
    rw [hX]
    obtain ⟨Y, hY⟩ : ∃ Y, Y = w.alloc (.cells #[.string o.p, .string o.n, .slice la o.ls.length lc, .int .i64 o.pr, .int .i64 o.dl, .slice pa o.ps.length pc, .int .i64 o.ver] 25) := ⟨_, rfl⟩
    have hs : Y.heap.size = w.heap.size + 1 := by rw [hY]; simp
    have h0 : Y.heap[w.heap.size]? = some (.cells #[.string o.p, .string o.n, .slice la o.ls.length lc, .int .i64 o.pr, .int .i64 o.dl, .slice pa o.ps.length pc, .int .i64 o.ver] 25 (0, 0)) := by rw [hY]; exact heap_alloc_new _ _
    rw [← hY]
    refine ⟨?_, ?_⟩
    · rw [Below.heap_alloc _ _ _ (by omega)]; exact h0
    · rw [← hs]; exact heap_alloc_new _ _)
  have KC : Hid (∀ W, Kq X W → (W.cell? ⟨w.heap.size, 0, none⟩ = some (.string o.p) ∧ W.cell? ⟨w.heap.size, 1, none⟩ = some (.string o.n) ∧ W.cell? ⟨w.heap.size, 2, none⟩ = some (.slice la o.ls.length lc) ∧ W.cell? ⟨w.heap.size, 3, none⟩ = some (.int .i64 o.pr) ∧ W.cell? ⟨w.heap.size, 4, none⟩ = some (.int .i64 o.dl) ∧ W.cell? ⟨w.heap.size, 5, none⟩ = some (.slice pa o.ps.length pc) ∧ W.cell? ⟨w.heap.size, 6, none⟩ = some (.int .i64 o.ver)) ∧
      (W.cell? ⟨w.heap.size + 1, 0, none⟩ = some (.string p.p) ∧ W.cell? ⟨w.heap.size + 1, 1, none⟩ = some (.string p.n) ∧ W.cell? ⟨w.heap.size + 1, 2, none⟩ = some (.slice ma p.ls.length mc) ∧ W.cell? ⟨w.heap.size + 1, 3, none⟩ = some (.int .i64 p.pr) ∧ W.cell? ⟨w.heap.size + 1, 4, none⟩ = some (.int .i64 p.dl) ∧ W.cell? ⟨w.heap.size + 1, 5, none⟩ = some (.slice qa p.ps.length qc) ∧ W.cell? ⟨w.heap.size + 1, 6, none⟩ = some (.int .i64 p.ver))) := Lib.hid fun W h => by
    have e1 := h.bk _ _ _ _ CX.out.1
    have e2 := h.bk _ _ _ _ CX.out.2
    refine ⟨⟨?_, ?_, ?_, ?_, ?_, ?_, ?_⟩, ⟨?_, ?_, ?_, ?_, ?_, ?_, ?_⟩⟩ <;> first | (rw [cell_of_row _ _ _ _ _ _ e1]; rfl) | (rw [cell_of_row _ _ _ _ _ _ e2]; rfl)
  obtain ⟨E1, hE1⟩ : ∃ e, e = mvE false f o := ⟨_, rfl⟩
  obtain ⟨E2, hE2⟩ : ∃ e, e = mvE true (mvF false f o) p := ⟨_, rfl⟩
  have LX : Hid (Lv w0 X t b n D f) := Lib.hid (HH.out.below BX.out)
  have RL : Hid (Calls Tryz.prog 14 #[.pointer (some ⟨t, 0, none⟩), o.val (.slice la o.ls.length lc) (.slice pa o.ps.length pc)] X fun e W' => e = .returned (.int .i64 E1) ∧ Hid (∃ D' n', Lv w0 W' t b n' D' (mvF false f o) ∧ Kept (fun y => y = b) X W' ∧ n' ≤ n + 144000000)) := Lib.hid (by
    refine Calls.mono (release_lvk o _ _ LX.out (V1.out.below BX.out) SZ.out.1 SZ.out.2.1 (by have := NN.out; omega)) ?_
    rintro e W' ⟨D', n', rfl, h2, h3, h4⟩
    exact ⟨by rw [hE1], Lib.hid ⟨D', n', h2, h3, by have := L1.out; omega⟩⟩)
  have H1 := Lib.hid hE1
  have H2 := Lib.hid hE2
  have hX' := hX.symm
  clear H hv hv2 hz hp hz2 hp2 hn hX hE1 hE2
  unfold Ob.val at RL ⊢
  obtain ⟨a0, a1, a2, a3, a4, a5, a6⟩ := (KC.out X (Kq.of (Below.refl _ _))).1
  go_enter Tryz.func16, Tryz.ntmps16
  go_wp2_with fail
  refine RL.out.mono ?_
  rintro e w1 ⟨rfl, F1⟩
  clear RL a0 a1 a2 a3 a4 a5 a6
  obtain ⟨D1, n1, h1, h2, h3⟩ := F1.out
  have A1 := Lib.hid (And.intro h1 (And.intro h2 h3))
  clear h1 h2 h3 F1
  have K1 : Hid (Kq X w1) := Lib.hid (LX.out.kq A1.out.2.1)
  by_cases h1 : E1 = 0
  case neg =>
    have g1 : (E1 != 0) = true := by rw [bne_iff_ne]; exact h1
    go_wp2_with fail
    go_ret
    have e1 : chE f o p = E1 := by unfold chE; rw [← H1.out, if_pos h1]
    have e2 : mvF false f o = f := mv_no (by rw [← H1.out]; exact h1)
    refine ⟨D1, n1, by rw [e1]; rfl, ?_, (Below.kept BX.out _).trans A1.out.2.1 (fun _ _ e => e), by have := A1.out.2.2; omega⟩
    rw [ch_no (by rw [e1]; exact h1), ← e2]
    exact A1.out.1
  subst h1
  have e1 : Hid (chE f o p = E2) := Lib.hid (by unfold chE; rw [← H1.out, if_neg (by decide), H2.out])
  have CH : Hid (Calls Tryz.prog 11 #[.pointer (some ⟨t, 0, none⟩), p.val (.slice ma p.ls.length mc) (.slice qa p.ps.length qc)] w1 fun e W' => e = .returned (.int .i64 E2) ∧ Hid (∃ D' n', Lv w0 W' t b n' D' (mvF true (mvF false f o) p) ∧ Kept (fun y => y = b) w1 W' ∧ n' ≤ n1 + 144000000)) := Lib.hid (by
    refine Calls.mono (charge_lvk p _ _ A1.out.1 (ob_kq (V2.out.below BX.out) K1.out) SZ.out.2.2.1 SZ.out.2.2.2 (by have := NN.out; have := A1.out.2.2; omega)) ?_
    rintro e W' ⟨D', n', rfl, h2, h3, h4⟩
    exact ⟨by rw [H2.out], Lib.hid ⟨D', n', h2, h3, by have := L2.out; omega⟩⟩)
  unfold Ob.val at CH
  have g1 : ((0 : Int) != 0) = false := rfl
  obtain ⟨a0, a1, a2, a3, a4, a5, a6⟩ := (KC.out w1 K1.out).2
  go_wp2_with fail
  refine CH.out.mono ?_
  rintro e w2 ⟨rfl, F2⟩
  clear CH a0 a1 a2 a3 a4 a5 a6
  obtain ⟨D2, n2, h1, h2, h3⟩ := F2.out
  have A2 := Lib.hid (And.intro h1 (And.intro h2 h3))
  clear h1 h2 h3 F2
  have K2 : Hid (Kq X w2) := Lib.hid (K1.out.trans (A1.out.1.kq A2.out.2.1))
  by_cases h2 : E2 = 0
  case pos =>
    subst h2
    have g2 : ((0 : Int) != 0) = false := rfl
    go_wp2_with fail
    go_ret
    refine ⟨D2, n2, by rw [e1.out]; rfl, ?_, (Below.kept BX.out _).trans (A1.out.2.1.trans A2.out.2.1 (fun _ _ e => e)) (fun _ _ e => e), by have := A1.out.2.2; have := A2.out.2.2; omega⟩
    have q : chG f o p = mvF true (mvF false f o) p := by unfold chG; rw [if_pos e1.out]
    rw [q]
    exact A2.out.1
  case neg =>
    have g2 : (E2 != 0) = true := by rw [bne_iff_ne]; exact h2
    have e2 : mvF true (mvF false f o) p = mvF false f o := mv_no (by rw [← H2.out]; exact h2)
    have FW := Lib.hid (mv_fwd SZ.out.1 (fun x => (HH.out.rep.rng x).2) H1.out.symm)
    have CB : Hid (Calls Tryz.prog 11 #[.pointer (some ⟨t, 0, none⟩), o.val (.slice la o.ls.length lc) (.slice pa o.ps.length pc)] w2 fun e W' => e = .returned (.int .i64 0) ∧ Hid (∃ D' n', Lv w0 W' t b n' D' f ∧ Kept (fun y => y = b) w2 W' ∧ n' ≤ n2 + 144000000)) := Lib.hid (by
      have A3 := A2.out.1
      rw [e2] at A3
      refine Calls.mono (charge_lvk o _ _ A3 (ob_kq (V1.out.below BX.out) K2.out) SZ.out.1 SZ.out.2.1 (by have := NN.out; have := A1.out.2.2; have := A2.out.2.2; omega)) ?_
      rintro e W' ⟨D', n', rfl, h2, h3, h4⟩
      rw [FW.out.2] at h2
      exact ⟨by rw [FW.out.1], Lib.hid ⟨D', n', h2, h3, by have := L1.out; omega⟩⟩)
    unfold Ob.val at CB
    obtain ⟨a0, a1, a2, a3, a4, a5, a6⟩ := (KC.out w2 K2.out).1
    go_wp2_with fail
    refine CB.out.mono ?_
    rintro e w3 ⟨rfl, F3⟩
    clear CB a0 a1 a2 a3 a4 a5 a6
    obtain ⟨D3, n3, h1, h2', h3⟩ := F3.out
    have A3 := Lib.hid (And.intro h1 (And.intro h2' h3))
    clear h1 h2' h3 F3
    go_wp2_with fail
    go_ret
    refine ⟨D3, n3, by rw [e1.out]; rfl, ?_, (Below.kept BX.out _).trans (A1.out.2.1.trans (A2.out.2.1.trans A3.out.2.1 (fun _ _ e => e)) (fun _ _ e => e)) (fun _ _ e => e), by have := A1.out.2.2; have := A2.out.2.2; have := A3.out.2.2; omega⟩
    rw [ch_no (by rw [e1.out]; exact h2)]
    exact A3.out.1
end Le
end Go.Proofs.YtodfmnbfbndkhaaGreatDoor
end S0

section S1
namespace Go.Proofs.YtodfmnbfbndkhaaGreatDoor
open Go.RowKit Go.Sort
namespace Le
theorem teq_no {a b : ByteArray} (h : a ≠ b) : (a.toList == b.toList) = false := by
  rw [beq_eq_false_iff_ne]
  intro e
  apply h
  rw [ByteArray.toList_eq, ByteArray.toList_eq] at e
  exact ByteArray.ext (Array.ext' e)
def sameB (h o : Ob) : Bool := decide (h.p = o.p) && decide (h.n = o.n)
theorem plc_lt {hs : List Ob} {o : Ob} (h : plc hs o < hs.length) : sameB hs[plc hs o] o = true := List.findIdx_getElem (w := h)
theorem plc_at {hs : List Ob} {o : Ob} {k : Nat} (hk : k < hs.length) (h1 : ∀ j (hj : j < hs.length), j < k → sameB hs[j] o = false) (h2 : sameB hs[k] o = true) : plc hs o = k := by
  unfold plc
  rw [List.findIdx_eq hk]
  exact ⟨h2, fun j hj => h1 j (Nat.lt_trans hj hk) hj⟩
theorem plc_no {hs : List Ob} {o : Ob} (h1 : ∀ j (hj : j < hs.length), sameB hs[j] o = false) : ¬ plc hs o < hs.length := by
  intro h
  have := plc_lt h
  rw [h1 _ h] at this
  exact absurd this (by decide)
/-- What place answers. -/
def plV (hs : List Ob) (o : Ob) : Int := if plc hs o < hs.length then (plc hs o : Int) else -1
set_option maxHeartbeats 4000000 in
set_option maxRecDepth 100000 in
theorem place_any (v : Value) (rs : List Rb) (o : Ob) (la : Option Addr) (ln lc : Nat) (pa : Option Addr) (pn pc : Nat) (w : World) (H : Row kOb w v rs) (hm : rs.length ≤ 100000000000) :
    Calls Tryz.prog 34 #[v, o.val (.slice la ln lc) (.slice pa pn pc)] w fun e w' => e = .returned (.int .i64 (plV (rs.map (·.1)) o)) ∧ Below w.heap.size w w' := by
  obtain ⟨va, vc, rfl, hlc, hcm⟩ := H.len
  obtain ⟨op, on, ols, opr, odl, ops, over⟩ := o
  obtain ⟨m, hmm⟩ : ∃ m, m = rs.length := ⟨_, rfl⟩
  rw [← hmm] at H hlc hm ⊢
  have M := Lib.hid hmm
  have HR := Lib.hid H
  clear H hmm
  unfold Ob.val
  obtain ⟨X, hX⟩ : ∃ X, X = w.alloc (.cells #[.string op, .string on, .slice la ln lc, .int .i64 opr, .int .i64 odl, .slice pa pn pc, .int .i64 over] 25) := ⟨_, rfl⟩
  have BX : Hid (Below w.heap.size w X) := Lib.hid (by rw [hX]; exact (Below.refl _ _).alloc (Nat.le_refl _) _)
  have hb : X.heap[w.heap.size]? = some (.cells #[.string op, .string on, .slice la ln lc, .int .i64 opr, .int .i64 odl, .slice pa pn pc, .int .i64 over] 25 (0, 0)) := by rw [hX]; exact heap_alloc_new _ _
  obtain ⟨g3, hg3⟩ : ∃ g, g = w.heap.size := ⟨_, rfl⟩
  rw [← hg3] at hb
  have HB := Lib.hid hb
  have HX := Lib.hid (HR.out.below BX.out)
  have hX' := hX.symm
  have hg3' := hg3.symm
  clear hX hg3 hb
  go_enter Tryz.func34, Tryz.ntmps34
  go_wp2_with fail
  go_loopg [5] m (fun gg si wr => ∃ i : Nat, i ≤ m ∧ gg = m - i ∧ si = .int .i64 i ∧ Hid (Below X.heap.size X wr ∧ ∀ j (hj : j < (rs.map (·.1)).length), j < i → sameB (rs.map (·.1))[j] ⟨op, on, ols, opr, odl, ops, over⟩ = false))
  case atStart => exact ⟨0, by omega, rfl, rfl, Lib.hid ⟨Below.refl _ _, fun j _ h => by omega⟩⟩
  case round =>
    obtain ⟨i, hi, hg, rfl, Q⟩ := hrel
    have G := Lib.hid hg
    clear hg
    by_cases h0 : i < m
    · have h0' : (i : Int) < (m : Int) := by omega
      have hir : i < rs.length := by rw [← M.out]; exact h0
      obtain ⟨bb, off, ea, hc⟩ := (HX.out.below Q.out.1).at i hir
      subst ea
      have ex : rs.getD i kOb.z = rs[i] := by rw [List.getD_eq_getElem?_getD, List.getElem?_eq_getElem hir]; rfl
      rw [ex] at hc
      have SB : Hid (∀ h : i < (rs.map (·.1)).length, (rs.map (·.1))[i] = (rs[i]).1) := Lib.hid (fun h => by rw [List.getElem_map])
      obtain ⟨x, hx⟩ : ∃ x, x = rs[i] := ⟨_, rfl⟩
      rw [← hx] at hc SB
      clear hx ex
      obtain ⟨⟨xp, xn, xls, xpr, xdl, xps, xver⟩, xl, xq⟩ := x
      have q0 : wr.cell? ⟨bb, off + i * 7, none⟩ = some (.string xp) := hc 0 _ rfl
      have q1 : wr.cell? ⟨bb, off + i * 7 + 1, none⟩ = some (.string xn) := hc 1 _ rfl
      have hb2 := (Q.out.1.block g3 (lt_of_some HB.out)).trans HB.out
      have a0 : wr.cell? ⟨g3, 0, none⟩ = some (.string op) := by rw [cell_of_row _ _ _ _ _ _ hb2]; rfl
      have a1 : wr.cell? ⟨g3, 1, none⟩ = some (.string on) := by rw [cell_of_row _ _ _ _ _ _ hb2]; rfl
      have SM : Hid (∀ b, sameB ⟨xp, xn, xls, xpr, xdl, xps, xver⟩ ⟨op, on, ols, opr, odl, ops, over⟩ = b → ∀ h : i < (rs.map (·.1)).length, sameB (rs.map (·.1))[i] ⟨op, on, ols, opr, odl, ops, over⟩ = b) := Lib.hid (fun b hb h => by rw [SB.out h]; exact hb)
      clear hc hb2 SB
      have NX : Hid (sameB ⟨xp, xn, xls, xpr, xdl, xps, xver⟩ ⟨op, on, ols, opr, odl, ops, over⟩ = false → ∀ j (hj : j < (rs.map (·.1)).length), j < i + 1 → sameB (rs.map (·.1))[j] ⟨op, on, ols, opr, odl, ops, over⟩ = false) := Lib.hid (fun hf j hj hlt => by
        rcases Nat.lt_or_ge j i with q | q
        · exact Q.out.2 j hj q
        · obtain rfl : j = i := by omega
          exact SM.out _ hf hj)
      by_cases e1 : xp = op
      · subst e1
        have g1 : (xp.toList == xp.toList) = true := beq_self_eq_true _
        by_cases e2 : xn = on
        · subst e2
          have g2 : (xn.toList == xn.toList) = true := beq_self_eq_true _
          have AN : Hid (plV (rs.map (·.1)) ⟨xp, xn, ols, opr, odl, ops, over⟩ = (i : Int)) := Lib.hid (by
            have hil : i < (rs.map (·.1)).length := by rw [List.length_map]; exact hir
            have e := plc_at hil Q.out.2 (SM.out true (by simp [sameB]) hil)
            unfold plV
            rw [e, if_pos hil])
          go_wp2_with fail
          go_quiet (fail)
          go_wp2_with fail
          go_ret
          rw [AN.out]
          exact ⟨rfl, BX.out.trans ((Q.out.1.trans ((below_drawn wr _).mono Q.out.1.size)).mono BX.out.size)⟩
        · have g2 := teq_no e2
          have R := Lib.hid (NX.out (by simp [sameB, e2]))
          clear e2
          go_wp2_with fail
          go_quiet (fail)
          go_wp2_with fail
          go_roundg (m - (i + 1))
          case measure => have := G.out; omega
          case rel => exact ⟨i + 1, by omega, rfl, by go_num, Lib.hid ⟨Q.out.1.trans ((below_drawn wr _).mono Q.out.1.size), R.out⟩⟩
      · have g1 := teq_no e1
        have R := Lib.hid (NX.out (by simp [sameB, e1]))
        clear e1
        go_wp2_with fail
        go_quiet (fail)
        go_wp2_with fail
        go_roundg (m - (i + 1))
        case measure => have := G.out; omega
        case rel => exact ⟨i + 1, by omega, rfl, by go_num, Lib.hid ⟨Q.out.1.trans ((below_drawn wr _).mono Q.out.1.size), R.out⟩⟩
    · have h0' : ¬ (i : Int) < (m : Int) := by omega
      have AN : Hid (plV (rs.map (·.1)) ⟨op, on, ols, opr, odl, ops, over⟩ = -1) := Lib.hid (by
        unfold plV
        rw [if_neg (plc_no (fun j hj => Q.out.2 j hj (by rw [List.length_map, ← M.out] at hj; omega)))])
      go_wp2_with fail
      go_ret
      rw [AN.out]
      have fin := BX.out.trans (Q.out.1.mono BX.out.size)
      rw [hg3'] at fin
      exact ⟨rfl, fin⟩
end Le
end Go.Proofs.YtodfmnbfbndkhaaGreatDoor
end S1

section S2
namespace Go.Proofs.YtodfmnbfbndkhaaGreatDoor
open Go.RowKit Go.Sort Go.Lib
namespace Le
theorem take_set_last {β : Type} (l : List β) (k : Nat) (x : β) (h : k < l.length) : (l.set k x).take (k + 1) = l.take k ++ [x] := by
  rw [List.take_add_one, List.take_set_of_le (Nat.le_refl _), List.getElem?_set_self h]; rfl
variable {α : Type} {K : Kd α}
theorem take_mid {β : Type} (c vs : List β) (o N : Nat) (ho : o + vs.length ≤ N) (hN : N ≤ c.length) : (c.take o ++ vs ++ c.drop (o + vs.length)).take N = (c.take N).take o ++ vs ++ (c.take N).drop (o + vs.length) := by
  rw [List.append_assoc, List.take_append, List.take_append, List.length_take, List.take_take, List.take_take, List.drop_take, List.append_assoc]
  rw [show min N o = o by omega, show min o N = o by omega, show min o c.length = o by omega, List.take_of_length_le (l := vs) (by omega), Nat.sub_sub]
theorem own_some {B : Nat} {w : World} {a : Option Addr} {n cap : Nat} {xs : List α} (H : OwnR K B w (.slice a n cap) xs) (h : 0 < n) : ∃ g, a = some ⟨g, 0, none⟩ := by
  obtain ⟨hl, ⟨hv, hn⟩ | ⟨g', cap', cur, hv, hb, hg, hn, hm, hs, ht⟩⟩ := H
  · simp only [Value.slice.injEq] at hv; omega
  · simp only [Value.slice.injEq] at hv
    exact ⟨g', hv.1⟩
theorem own_len {B : Nat} {w : World} {a : Option Addr} {n cap : Nat} {xs : List α} (H : OwnR K B w (.slice a n cap) xs) : n = xs.length := by
  obtain ⟨a', c', h⟩ := H.slice
  simp only [Value.slice.injEq] at h
  exact h.2.1
theorem own_parts {B : Nat} {w : World} {g n cap : Nat} {xs : List α} (H : OwnR K B w (.slice (some ⟨g, 0, none⟩) n cap) xs) : ∃ cur : Array Value, n = xs.length ∧ B ≤ g ∧ w.heap[g]? = some (.cells cur K.t (0, 0)) ∧ n ≤ cap ∧ cap ≤ maxLen ∧ cur.size = cap * K.k ∧ cur.toList.take (n * K.k) = cellsR K xs := by
  obtain ⟨hl, ⟨hv, hn⟩ | ⟨g', cap', cur, hv, hb, hg, hn, hm, hs, ht⟩⟩ := H
  · simp at hv
  · simp only [Value.slice.injEq, Option.some.injEq, Addr.mk.injEq, and_true] at hv
    obtain ⟨rfl, rfl, rfl⟩ := hv
    exact ⟨cur, rfl, hb, hg, hn, hm, hs, ht⟩
theorem own_ofParts (ok : K.Ok) {B : Nat} {w : World} {g cap : Nat} {xs : List α} {cur : Array Value} (hb : B ≤ g) (hg : w.heap[g]? = some (.cells cur K.t (0, 0))) (hn : xs.length ≤ cap) (hm : cap ≤ maxLen) (hs : cur.size = cap * K.k) (ht : cur.toList.take (xs.length * K.k) = cellsR K xs) : OwnR K B w (.slice (some ⟨g, 0, none⟩) xs.length cap) xs :=
  ⟨cellsR_length ok xs, .inr ⟨g, cap, cur, rfl, hb, hg, hn, hm, hs, ht⟩⟩
theorem cellsR_put (ok : K.Ok) (xs : List α) (i : Nat) (hi : i < xs.length) (y : α) : cellsR K (xs.set i y) = (cellsR K xs).take (i * K.k) ++ K.c y ++ (cellsR K xs).drop (i * K.k + K.k) := by
  induction xs generalizing i with
  | nil => simp at hi
  | cons x r ih =>
    cases i with
    | zero =>
      have e : (K.c x).length = K.k := ok.len x
      rw [List.set_cons_zero, cellsR, cellsR, List.flatMap_cons, List.flatMap_cons, Nat.zero_mul, List.take_zero, List.nil_append, Nat.zero_add, ← e, List.drop_left]
    | succ i =>
      have := ih i (by simpa using hi)
      have e : (K.c x).length = K.k := ok.len x
      rw [List.set_cons_succ, cellsR, cellsR, List.flatMap_cons, List.flatMap_cons, Nat.succ_mul]
      rw [cellsR, cellsR] at this
      rw [this, show i * K.k + K.k = (K.c x).length + i * K.k by rw [e]; omega, List.take_length_add_append, show (K.c x).length + i * K.k + K.k = (K.c x).length + (i * K.k + K.k) by omega, List.drop_length_add_append]
      simp only [List.append_assoc]
      rw [show (K.c x).length + i * K.k = i * K.k + K.k by omega]
theorem heap_setCells (t : TypeId) (g : Nat) : ∀ (vs : List Value) (o : Nat) (w : World) (cur : Array Value), w.heap[g]? = some (.cells cur t (0, 0)) → o + vs.length ≤ cur.size →
    ∃ cur' : Array Value, (w.setCells g o vs).heap[g]? = some (.cells cur' t (0, 0)) ∧ cur'.toList = cur.toList.take o ++ vs ++ cur.toList.drop (o + vs.length)
  | [], o, w, cur, h, hl => ⟨cur, h, by simp⟩
  | v :: vs, o, w, cur, h, hl => by
    rw [List.length_cons] at hl
    have h1 : (w.setCell ⟨g, o, none⟩ v).heap[g]? = some (.cells (cur.setIfInBounds o v) t (0, 0)) := heap_setCell_same _ _ _ _ _ _ h
    obtain ⟨cur', q1, q2⟩ := heap_setCells t g vs (o + 1) (w.setCell ⟨g, o, none⟩ v) (cur.setIfInBounds o v) h1 (by simp; omega)
    refine ⟨cur', q1, ?_⟩
    have hol : o < cur.toList.length := by rw [Array.length_toList]; omega
    rw [q2, Array.toList_setIfInBounds, List.length_cons, show o + 1 + vs.length = o + (vs.length + 1) by omega]
    have e1 : (cur.toList.set o v).take (o + 1) = cur.toList.take o ++ [v] := take_set_last _ _ _ hol
    have e2 : (cur.toList.set o v).drop (o + (vs.length + 1)) = cur.toList.drop (o + (vs.length + 1)) := List.drop_set_of_lt (by omega)
    rw [e1, e2]
    simp
theorem grown_setCells (g : Nat) : ∀ (vs : List Value) (o : Nat) (w : World), w.grownBy (w.setCells g o vs) (some g)
  | [], o, w => ⟨rfl, rfl, rfl, Nat.le_refl _, fun _ _ _ => rfl⟩
  | v :: vs, o, w => by
    have h1 : w.grownBy (w.setCell ⟨g, o, none⟩ v) (some g) := by
      have q := kept_set (F := fun k => some k = some g) w ⟨g, o, none⟩ v rfl
      exact ⟨q.os, q.tape, q.output, q.size, q.block⟩
    exact h1.trans (grown_setCells g vs (o + 1) _)
/-- An element turned whole. -/
theorem own_put (ok : K.Ok) {B : Nat} {w : World} {g n cap : Nat} {xs : List α} (H : OwnR K B w (.slice (some ⟨g, 0, none⟩) n cap) xs) (i : Nat) (hi : i < xs.length) (y : α) :
    OwnR K B (w.setCells g (i * K.k) (K.c y)) (.slice (some ⟨g, 0, none⟩) n cap) (xs.set i y) ∧ w.grownBy (w.setCells g (i * K.k) (K.c y)) (some g) ∧ w.there g (i * K.k) (K.c y).length := by
  obtain ⟨cur, rfl, hbg, hg, hnc, hcm, hsz, ht⟩ := own_parts H
  have hmul : (i + 1) * K.k ≤ xs.length * K.k := Nat.mul_le_mul_right _ hi
  have hmul2 : xs.length * K.k ≤ cap * K.k := Nat.mul_le_mul_right _ hnc
  rw [Nat.succ_mul] at hmul
  have hlen := ok.len y
  obtain ⟨cur', q1, q2⟩ := heap_setCells K.t g (K.c y) (i * K.k) w cur hg (by omega)
  have e : (xs.set i y).length = xs.length := by simp
  have z2 : cur.toList.length = cur.size := Array.length_toList
  refine ⟨?_, grown_setCells _ _ _ _, fun j hj => ⟨?_, frozen_of_row _ _ _ _ _ hg⟩⟩
  · rw [← e]
    refine own_ofParts ok hbg q1 (by rw [e]; exact hnc) hcm ?_ ?_
    · have z : cur'.toList.length = cur'.size := Array.length_toList
      rw [q2, List.length_append, List.length_append, List.length_take, List.length_drop] at z
      omega
    · rw [e, q2, cellsR_put ok xs i hi y, ← ht, take_mid _ _ _ _ (by omega) (by omega), hlen]
  · rw [cell_of_row _ _ _ _ _ _ hg, Array.getElem?_eq_getElem (by omega)]; rfl
theorem size_of (ok : K.Ok) (z : α) : (Tryz.prog.info? K.t).map (·.size) = some (K.c z).toArray.size := by
  obtain ⟨zv, hinf, hzc⟩ := ok.inf
  obtain ⟨i0, hi, hz0, hz1, hz2⟩ := info_parts hinf
  rw [hi]
  show some i0.size = _
  rw [hz1, List.size_toArray, ok.len]
theorem store_el (ok : K.Ok) {ops : Array Oper} {rest : List Oper} {o : Oper} {a : Act} {w : World} {Q : Exit → Act → World → Prop} (hgd : o.guard = none) (x y : Operand) (ho : o.op = .store K.t x y)
    {B g m c i j : Nat} {L : List α} (H : OwnR K B w (.slice (some ⟨g, 0, none⟩) m c) L) (hi : i < L.length) (z : α) {cs : Array Value} (hcs : cs = (K.c z).toArray) (hj : j = i * K.k) (hx : a.eval x = .pointer (some ⟨g, j, none⟩)) (hy : a.eval y = .agg cs)
    (h : ∀ W, Hid (OwnR K B W (.slice (some ⟨g, 0, none⟩) m c) (L.set i z) ∧ w.grownBy W (some g)) → wpList Tryz.prog ops Q rest (a.put o.dst undef) W) : wpList Tryz.prog ops Q (o :: rest) a w := by
  subst hj hcs
  obtain ⟨q1, q2, q3⟩ := own_put ok H i hi z
  exact wpList_store_mid hgd K.t x y ho g (i * K.k) (K.c z).toArray hx hy (by simpa using q3) (size_of ok z) (all_oneCell_toArray (ok.one z)) (h _ (Lib.hid ⟨q1, q2⟩))
theorem step_store_el (ok : K.Ok) {ops : Array Oper} {o : Oper} {a : Act} {w : World} {KK : Act → World → Prop} {Q : Exit → Act → World → Prop} {E : Prop} (hgd : o.guard = none) (x y : Operand) (ho : o.op = .store K.t x y)
    {B g m c i j : Nat} {L : List α} (H : OwnR K B w (.slice (some ⟨g, 0, none⟩) m c) L) (hi : i < L.length) (z : α) {cs : Array Value} (hcs : cs = (K.c z).toArray) (hj : j = i * K.k) (hx : a.eval x = .pointer (some ⟨g, j, none⟩)) (hy : a.eval y = .agg cs)
    (h : ∀ W, Hid (OwnR K B W (.slice (some ⟨g, 0, none⟩) m c) (L.set i z) ∧ w.grownBy W (some g)) → KK (a.put o.dst undef) W) : if Region.wanted o (yielded ops a.tmps) = true then Oper.wp Tryz.prog o a w KK Q else E := by
  subst hj hcs
  rw [if_pos (by simp [Region.wanted, hgd])]
  obtain ⟨q1, q2, q3⟩ := own_put ok H i hi z
  exact wp_store_mid K.t x y ho g (i * K.k) (K.c z).toArray hx hy (by simpa using q3) (size_of ok z) (all_oneCell_toArray (ok.one z)) (h _ (Lib.hid ⟨q1, q2⟩))
/-- An append as a step of a drawn region: where the new row lies. -/
theorem step_rowA (ok : K.Ok) {ops : Array Oper} {o : Oper} {a : Act} {KK : Act → World → Prop} {Q : Exit → Act → World → Prop} {E : Prop} (hgd : o.guard = none) (s y : Operand)
    (ho : o.op = .call { callee := .builtin .append, args := #[s, y], argTypes := #[K.s, K.s] })
    {B : Nat} {w0 : World} {v : Value} {es : List α} (hs : a.eval s = v) (hown : OwnR K B w0 v es) (hB : B ≤ w0.heap.size) (p : α) {cs : Array Value} (hcs : cs = (K.c p).toArray)
    (hx : a.eval y = .slice (some ⟨w0.heap.size, 0, none⟩) 1 1) (hl : (es.length + 1) * K.b ≤ 140737488355328)
    (h : ∀ a' n' c' w', Hid (OwnR K B w' (.slice a' n' c') (es ++ [p]) ∧ w0.grownBy w' v.ownBlock ∧ n' = es.length + 1 ∧ ((Value.slice a' n' c').ownBlock = v.ownBlock ∨ ∃ b, w0.heap.size ≤ b ∧ (Value.slice a' n' c').ownBlock = some b)) → KK (a.put o.dst (.slice a' n' c')) w') :
    if Region.wanted o (yielded ops a.tmps) = true then Oper.wp Tryz.prog o a (w0.alloc (.cells cs K.t)) KK Q else E := by
  subst hcs
  rw [if_pos (by simp [Region.wanted, hgd])]
  obtain ⟨zv, hinf, hzc⟩ := ok.inf
  obtain ⟨i0, hi, hz0, hz1, hz2⟩ := info_parts hinf
  have hb := ok.by0
  obtain ⟨v', w', hr, h2, h3, _, h5⟩ := run_append_own_at (P := Tryz.prog) (w0.alloc (.cells (K.c p).toArray K.t)) B K.s o.type K.t i0 zv K.k K.b ok.und hi hz0 hz1 hz2 hzc ok.pos v es.length (cellsR K es) (World.ownsRow.alloc hown _) ⟨w0.heap.size, 0, none⟩ 1 1 (K.c p) (by rw [ok.len, Nat.one_mul]) (by
    intro j u hj
    rw [add_plain, Nat.zero_add, World.cell?_alloc_new, ← Array.getElem?_toList]; exact hj) (ok.one p) (by have := Nat.le_mul_of_pos_right (es.length + 1) hb.1; unfold maxLen; omega) hl (by simp; omega)
  unfold Oper.wp execOp
  simp only [ho, resolve, invoke, builtin, Sem.run_bind, Sem.run_pure, Result.andThen_ok, List.map_toArray, List.map_cons, List.map_nil, hs, hx, hr]
  have o2 : OwnR K B w' v' (es ++ [p]) := by
    show w'.ownsRow _ _ _ _ _ _
    rw [cellsR_app, List.length_append, cellsR_single]; exact h2
  obtain ⟨a7, c7, e7⟩ := o2.slice
  subst e7
  refine h a7 _ c7 w' (Lib.hid ⟨o2, grown_alloc h3, by simp, ?_⟩)
  rcases h5 with q | q
  · exact Or.inl q
  · exact Or.inr ⟨_, by simp, q⟩
/-- An append of a whole row as a step of a drawn region. -/
theorem step_rowsA (ok : K.Ok) {ops : Array Oper} {o : Oper} {a : Act} {w : World} {KK : Act → World → Prop} {Q : Exit → Act → World → Prop} {E : Prop} (hgd : o.guard = none) (s y : Operand)
    (ho : o.op = .call { callee := .builtin .append, args := #[s, y], argTypes := #[K.s, K.s] })
    {B : Nat} {v : Value} {l m : List α} {ad : Addr} {mc : Nat} {mn : Nat} (hs : a.eval s = v) (hown : OwnR K B w v l) (hB : B ≤ w.heap.size) (hx : a.eval y = .slice (some ad) mn mc) (hu : Row K w (.slice (some ad) mn mc) m) (hl : (l.length + m.length) * K.b ≤ 140737488355328)
    (h : ∀ a' n' c' w', Hid (OwnR K B w' (.slice a' n' c') (l ++ m) ∧ w.grownBy w' v.ownBlock ∧ n' = l.length + m.length ∧ ((Value.slice a' n' c').ownBlock = v.ownBlock ∨ ∃ b, w.heap.size ≤ b ∧ (Value.slice a' n' c').ownBlock = some b)) → KK (a.put o.dst (.slice a' n' c')) w') :
    if Region.wanted o (yielded ops a.tmps) = true then Oper.wp Tryz.prog o a w KK Q else E := by
  rw [if_pos (by simp [Region.wanted, hgd])]
  obtain ⟨zv, hinf, hzc⟩ := ok.inf
  obtain ⟨i0, hi, hz0, hz1, hz2⟩ := info_parts hinf
  have hb := ok.by0
  obtain ⟨ad2, cap, e, hlc, hcm, hn, hc⟩ := hu
  simp only [Value.slice.injEq] at e
  obtain ⟨rfl, rfl, rfl⟩ := e
  obtain ⟨v', w', hr, h2, h3, _, h5⟩ := run_append_own_at (P := Tryz.prog) w B K.s o.type K.t i0 zv K.k K.b ok.und hi hz0 hz1 hz2 hzc ok.pos v l.length (cellsR K l) hown ad m.length mc (cellsR K m) (by rw [cellsR_length ok]) (by
    intro j y hj
    have hjl : j < m.length * K.k := by
      rcases Nat.lt_or_ge j (m.length * K.k) with q | q
      · exact q
      · rw [List.getElem?_eq_none (by rw [cellsR_length ok]; exact q)] at hj; simp at hj
    have hkp := ok.pos
    have hq : j / K.k < m.length := Nat.div_lt_of_lt_mul (by rw [Nat.mul_comm]; exact hjl)
    have hr : j % K.k < K.k := Nat.mod_lt _ hkp
    have e : j = j / K.k * K.k + j % K.k := by rw [Nat.mul_comm]; exact (Nat.div_add_mod j K.k).symm
    obtain ⟨b, off, ea, hcc⟩ := hc (j / K.k) hq
    simp only [Option.some.injEq] at ea
    subst ea
    rw [add_plain]
    rw [e, cellsR_at ok m _ hq _ hr] at hj
    have := hcc _ _ hj
    rw [e, ← Nat.add_assoc]
    exact this) (cellsR_one ok m) (by have := Nat.le_mul_of_pos_right (l.length + m.length) hb.1; unfold maxLen; omega) hl hB
  unfold Oper.wp execOp
  simp only [ho, resolve, invoke, builtin, Sem.run_bind, Sem.run_pure, Result.andThen_ok, List.map_toArray, List.map_cons, List.map_nil, hs, hx, hr]
  have o2 : OwnR K B w' v' (l ++ m) := by
    show w'.ownsRow _ _ _ _ _ _
    rw [cellsR_app, List.length_append]; exact h2
  obtain ⟨a7, c7, e7⟩ := o2.slice
  subst e7
  refine h a7 _ c7 w' (Lib.hid ⟨o2, h3, by simp, ?_⟩)
  rcases h5 with q | q
  · exact Or.inl q
  · exact Or.inr ⟨_, Nat.le_refl _, q⟩
/-- A row's beginning. -/
theorem own_take (ok : K.Ok) {B : Nat} {w : World} {a : Option Addr} {n cap : Nat} {xs : List α} (H : OwnR K B w (.slice a n cap) xs) (m : Nat) (hm : m ≤ xs.length) : OwnR K B w (.slice a m cap) (xs.take m) := by
  obtain ⟨h1, ⟨hv, hn⟩ | ⟨g, cap', cur, hv, hb, hg, hn, hmx, hs, ht⟩⟩ := H
  · simp only [Value.slice.injEq] at hv
    obtain ⟨rfl, rfl, rfl⟩ := hv
    have : m = 0 := by omega
    subst this
    exact OwnR.nil _ _ _
  · simp only [Value.slice.injEq] at hv
    obtain ⟨rfl, rfl, rfl⟩ := hv
    have e : (xs.take m).length = m := by rw [List.length_take]; omega
    have := own_ofParts ok (xs := xs.take m) hb hg (by omega) hmx hs (by
      rw [e]
      have h2 : cellsR K (xs.take m) = (cellsR K xs).take (m * K.k) := by
        have h3 : cellsR K xs = cellsR K (xs.take m) ++ cellsR K (xs.drop m) := by rw [← cellsR_app, List.take_append_drop]
        have h4 : m * K.k = (cellsR K (xs.take m)).length := by rw [cellsR_length ok, e]
        rw [h3, h4, List.take_left]
      rw [h2, ← ht, List.take_take, Nat.min_eq_left (Nat.mul_le_mul_right _ hm)])
    rw [e] at this
    exact this
/-- A row's end. -/
theorem row_drop {w : World} {a : Option Addr} {n cap : Nat} {xs : List α} (H : Row K w (.slice a n cap) xs) (m : Nat) (hm : m ≤ xs.length) (hc : m < cap) : ∃ a', a' = a.map (fun x => x.add (m * K.k)) ∧ Row K w (.slice a' (n - m) (cap - m)) (xs.drop m) := by
  obtain ⟨a0, cap0, e, h1, h2, h0, h3⟩ := H
  simp only [Value.slice.injEq] at e
  obtain ⟨rfl, rfl, rfl⟩ := e
  refine ⟨_, rfl, a.map (fun x => x.add (m * K.k)), cap - m, by rw [List.length_drop], by rw [List.length_drop]; omega, by omega, fun h => ?_, fun k hk => ?_⟩
  · cases a with
    | none => have := h0 rfl; omega
    | some x => simp at h
  · rw [List.length_drop] at hk
    obtain ⟨b, off, rfl, hcell⟩ := h3 (m + k) (by omega)
    refine ⟨b, off + m * K.k, by rw [Option.map_some, add_plain], fun j y hy => ?_⟩
    have e2 : (xs.drop m).getD k K.z = xs.getD (m + k) K.z := by rw [List.getD_eq_getElem?_getD, List.getD_eq_getElem?_getD, List.getElem?_drop]
    rw [e2] at hy
    have := hcell j y hy
    rw [show off + m * K.k + k * K.k + j = off + (m + k) * K.k + j by rw [Nat.add_mul]; omega]
    exact this
theorem row_none_of {w : World} {a : Option Addr} {n cap : Nat} (xs : List α) (hn : n = 0) (hx : xs.length = 0) (hc : cap ≤ maxLen) (h0 : a = none → cap = 0) : Row K w (.slice a n cap) xs := by
  subst hn
  exact ⟨a, cap, by rw [hx], by omega, hc, h0, fun k hk => by omega⟩
theorem enters (f : FuncId) (fn : Func) (hf : Tryz.prog.funcs[f]? = some fn) (hn : (fn.name == "runtime.NumGoroutine") = false) (hb : fn.body.isSome = true) (args : Array Value) (w : World) : (callFunc f args).run Tryz.prog w = .ok (.enter f args) w := by
  obtain ⟨c, hc⟩ := Option.isSome_iff_exists.1 hb
  have hne : ¬ fn.name = "runtime.NumGoroutine" := fun e => by rw [e] at hn; simp at hn
  simp [callFunc, hf, hne, hc]
/-- A call as a step of a drawn region. -/
theorem step_calls {f : FuncId} {ops : Array Oper} {o : Oper} {a : Act} {K : Act → World → Prop} {Q : Exit → Act → World → Prop} {E : Prop} (hcf : ∀ args w, (callFunc f args).run Tryz.prog w = .ok (.enter f args) w) (hgd : o.guard = none) (ys : Array Operand) (ts : Array TypeId)
    (ho : o.op = .call { callee := .value (.func f), args := ys, argTypes := ts }) {us : Array Value} {W : World} (hy : ys.map a.eval = us) {P : Value → World → Prop}
    (hc : Calls Tryz.prog f us W fun e w1 => ∃ V, e = .returned V ∧ P V w1) (h : ∀ V w1, Hid (P V w1) → K (a.put o.dst V) w1) :
    if Region.wanted o (yielded ops a.tmps) = true then Oper.wp Tryz.prog o a W K Q else E := by
  have hw : Region.wanted o (yielded ops a.tmps) = true := by simp [Region.wanted, hgd]
  rw [if_pos hw]
  have hf : a.eval (.func f) = .func (.func f) #[] #[] := rfl
  have hrun : (execOp a.eval o).run Tryz.prog W = .ok (.enter f us) W := by
    unfold execOp
    simp only [ho, resolve, hf, hy, Deferred.ofValue, Sem.run_bind, Sem.run_pure, Result.andThen_ok, invoke]
    have e : (#[] ++ us ++ #[] : Array Value) = us := by simp
    rw [e]
    exact hcf _ W
  unfold Oper.wp
  rw [hrun, Oper.upon_enter]
  refine hc.mono ?_
  rintro e w1 ⟨V, rfl, hp⟩
  exact h V w1 (Lib.hid hp)

end Le
end Go.Proofs.YtodfmnbfbndkhaaGreatDoor
end S2

section S3
namespace Go.Proofs.YtodfmnbfbndkhaaGreatDoor
open Go.RowKit Go.Sort
namespace Le
variable {w0 w W W' : World} {bb t b n : Nat} {D : DataW Unit} {f : Ky → Int} {hv : Value} {rs : List Rb}
/-- The book at bb: its ledger (at t, its map at b) with the sums f, the objects that it holds. -/
structure Bm (w0 : World) (bb t b n : Nat) (D : DataW Unit) (f : Ky → Int) (hv : Value) (rs : List Rb) (W : World) : Prop where
  lv : Lv w0 W t b n D f
  bx : W.heap[bb]? = some (.cells #[.pointer (some ⟨t, 0, none⟩), hv] 48 (0, 0))
  ls : LsAt w0.heap.size W hv rs
  bb0 : w0.heap.size ≤ bb
  gl : Gl w0
theorem Bm.below (h : Bm w0 bb t b n D f hv rs W) (hb : Below W.heap.size W W') : Bm w0 bb t b n D f hv rs W' :=
  ⟨h.lv.below hb, (hb.block _ (lt_of_some h.bx)).trans h.bx, h.ls.below hb, h.bb0, h.gl⟩
theorem Bm.turn (h : Bm w0 bb t b n D f hv rs W) {n' : Nat} {D' : DataW Unit} {f' : Ky → Int} (hl : Lv w0 W' t b n' D' f') (hk : Kept (fun y => y = b) W W') : Bm w0 bb t b n' D' f' hv rs W' :=
  ⟨hl, (h.lv.kq hk).bk _ _ _ _ h.bx, h.ls.kq (h.lv.kq hk), h.bb0, h.gl⟩
theorem Bm.c0 (h : Bm w0 bb t b n D f hv rs W) : W.cell? ⟨bb, 0, none⟩ = some (.pointer (some ⟨t, 0, none⟩)) := by rw [cell_of_row _ _ _ _ _ _ h.bx]; rfl
theorem Bm.c1 (h : Bm w0 bb t b n D f hv rs W) : W.cell? ⟨bb, 1, none⟩ = some hv := by rw [cell_of_row _ _ _ _ _ _ h.bx]; rfl
theorem Bm.fr (h : Bm w0 bb t b n D f hv rs W) (j : Nat) : W.frozen? ⟨bb, j, none⟩ = false := frozen_row h.bx j
/-- A row apart from a block that is written, by its type. -/
theorem own_wr {α : Type} {K : Kd α} {B g j : Nat} {u : Value} {v : Value} {l : List α} {cs : Array Value} {ty : TypeId} (H : OwnR K B w v l) (hg : w.heap[g]? = some (.cells cs ty (0, 0))) (ne : ty ≠ K.t) : OwnR K B (w.setCell ⟨g, j, none⟩ u) v l :=
  H.grownO (set_grown w g j u) (fun k e q => by
    obtain ⟨cs', m', h⟩ := H.ty k e
    rw [Option.some.inj q, hg] at h
    simp only [Option.some.injEq, Obj.cells.injEq] at h
    exact ne h.2.1)
theorem owo_wr {B g j : Nat} {u lv pv : Value} {o : Ob} {cs : Array Value} (H : OwO B w lv pv o) (hg : w.heap[g]? = some (.cells cs 48 (0, 0))) : OwO B (w.setCell ⟨g, j, none⟩ u) lv pv o := by
  obtain ⟨h1, rs, h2, h3⟩ := H
  exact ⟨own_wr h1 hg (by decide), rs, own_wr h2 hg (by decide), h3.1, fun k hk => ⟨(h3.2 k hk).1, own_wr (h3.2 k hk).2.1 hg (by decide), own_wr (h3.2 k hk).2.2 hg (by decide)⟩⟩
theorem LsAt.wr {B g j : Nat} {u v : Value} {cs : Array Value} (H : LsAt B w v rs) (hg : w.heap[g]? = some (.cells cs 48 (0, 0))) : LsAt B (w.setCell ⟨g, j, none⟩ u) v rs :=
  ⟨own_wr H.r hg (by decide), fun x hx => owo_wr (H.o x hx) hg⟩
theorem Bm.bx_row (h : Bm w0 bb t b n D f hv rs W) : some bb ≠ hv.ownBlock := fun e => by
  obtain ⟨cs, m, q⟩ := h.ls.r.ty bb e.symm
  rw [h.bx] at q
  simp [kOb] at q
theorem Bm.ne (h : Bm w0 bb t b n D f hv rs W) : t ≠ bb ∧ b ≠ bb := by
  constructor
  · intro e
    have q := h.lv.ld.t
    rw [e, h.bx] at q
    simp at q
  · intro e
    obtain ⟨es, c, q, _⟩ := h.lv.ld.m
    rw [e, h.bx] at q
    simp at q
/-- Another list is laid into the book. -/
theorem Bm.lay (lv : Lv w0 W t b n D f) (bx : W.heap[bb]? = some (.cells #[.pointer (some ⟨t, 0, none⟩), hv] 48 (0, 0))) (bb0 : w0.heap.size ≤ bb) (gl : Gl w0) {v' : Value} {rs' : List Rb} (hl : LsAt w0.heap.size W v' rs') : Bm w0 bb t b n D f v' rs' (W.setCell ⟨bb, 1, none⟩ v') := by
  refine ⟨lv.far (set_grown _ _ _ _) bb0 (fun e => ?_) (fun e => ?_) gl, ?_, hl.wr bx, bb0, gl⟩
  · have q := lv.ld.t
    rw [e, bx] at q
    simp at q
  · obtain ⟨es, c, q, _⟩ := lv.ld.m
    rw [e, bx] at q
    simp at q
  · rw [heap_setCell_same _ _ _ _ _ _ bx]
    rfl
/-- The row of what is held has grown, or one of its elements was turned. -/
theorem Bm.row (h : Bm w0 bb t b n D f hv rs W) (hg : W.grownBy W' hv.ownBlock) : Lv w0 W' t b n D f ∧ W'.heap[bb]? = some (.cells #[.pointer (some ⟨t, 0, none⟩), hv] 48 (0, 0)) ∧ ∀ x lv pv, OwO w0.heap.size W lv pv x → OwO w0.heap.size W' lv pv x :=
  ⟨h.lv.row h.ls.r (Nat.le_refl _) hg h.gl, (hg.block bb (lt_of_some h.bx) h.bx_row).trans h.bx, fun _ _ _ hx => owo_row hx h.ls.r hg⟩
/-- One more is appended. -/
theorem Bm.app (h : Bm w0 bb t b n D f hv rs W) {v' : Value} {x : Rb} (hx : OwO w0.heap.size W x.2.1.v x.2.2.v x.1) (hr : OwnR kOb w0.heap.size W' v' (rs ++ [x])) (hg : W.grownBy W' hv.ownBlock) : Bm w0 bb t b n D f v' (rs ++ [x]) (W'.setCell ⟨bb, 1, none⟩ v') := by
  obtain ⟨h1, h2, h3⟩ := h.row hg
  exact Bm.lay h1 h2 h.bb0 h.gl ⟨hr, fun y hy => by
    rcases List.mem_append.1 hy with z | z
    · exact h3 _ _ _ (h.ls.o y z)
    · rw [List.mem_singleton.1 z]; exact h3 _ _ _ hx⟩
/-- One is turned, where it lies. -/
theorem Bm.set (h : Bm w0 bb t b n D f hv rs W) {x : Rb} {i : Nat} (hx : OwO w0.heap.size W x.2.1.v x.2.2.v x.1) (hr : OwnR kOb w0.heap.size W' hv (rs.set i x)) (hg : W.grownBy W' hv.ownBlock) : Bm w0 bb t b n D f hv (rs.set i x) W' := by
  obtain ⟨h1, h2, h3⟩ := h.row hg
  exact ⟨h1, h2, ⟨hr, fun y hy => by
    rcases List.mem_or_eq_of_mem_set hy with z | z
    · exact h3 _ _ _ (h.ls.o y z)
    · rw [z]; exact h3 _ _ _ hx⟩, h.bb0, h.gl⟩
/-- A list of those that stay is laid, in a row of its own. -/
theorem Bm.cut (h : Bm w0 bb t b n D f hv rs W) {v' : Value} {rs' : List Rb} (hb : Below W.heap.size W W') (hr : OwnR kOb w0.heap.size W' v' rs') (hm : ∀ x ∈ rs', x ∈ rs) : Bm w0 bb t b n D f v' rs' (W'.setCell ⟨bb, 1, none⟩ v') := by
  have q := h.below hb
  exact Bm.lay q.lv q.bx q.bb0 q.gl ⟨hr, fun x hx => q.ls.o x (hm x hx)⟩
/-- The book between two steps: the sums are those of what is held. -/
structure Bk (w0 : World) (bb t b n : Nat) (D : DataW Unit) (hv : Value) (rs : List Rb) (W : World) : Prop where
  m : Bm w0 bb t b n D (tot (rs.map (·.1))) hv rs W
  hs : Hs (rs.map (·.1))
  oz : ∀ x ∈ rs, Ozz x.1
  len : rs.length ≤ 40
theorem Bk.below (h : Bk w0 bb t b n D hv rs W) (hb : Below W.heap.size W W') : Bk w0 bb t b n D hv rs W' := ⟨h.m.below hb, h.hs, h.oz, h.len⟩
/-- What a step may turn. -/
def Fr (b bb : Nat) (hv : Value) (y : Nat) : Prop := y = b ∨ y = bb ∨ some y = hv.ownBlock
/-- What a step leaves. -/
def StQ (w0 w : World) (bb t b n : Nat) (hv : Value) (hs : List Ob) (N : Nat) (W' : World) : Prop :=
  ∃ D' n' hv' rs', Bk w0 bb t b n' D' hv' rs' W' ∧ rs'.map (·.1) = hs ∧ n' ≤ n + N ∧ Kept (Fr b bb hv) w W' ∧ ∀ g, hv'.ownBlock = some g → hv.ownBlock = some g ∨ w.heap.size ≤ g
theorem StQ.same (h : Bk w0 bb t b n D hv rs W') (hb : Below w.heap.size w W') : StQ w0 w bb t b n hv (rs.map (·.1)) 0 W' :=
  ⟨D, n, hv, rs, h, rfl, Nat.le_refl _, Below.kept hb _, fun _ e => Or.inl e⟩
end Le
end Go.Proofs.YtodfmnbfbndkhaaGreatDoor
end S3
