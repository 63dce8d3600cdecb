/-
  The law's says: of every question it is so.
-/
import Derived.Test.YtdhnpgciclbfeaaGreatDoorAjZ
import Derived.Test.YtdhnpgciclbfeaaGreatDoorAiC
import Derived.Deep.DeepCutAuto
import Derived.Lib.QuietBelow
import Derived.BigQuiet
namespace Go.Proofs.YtdhnpgciclbfeaaGreatDoor
open Go.RowKit
namespace Ac
theorem any_take {α : Type} (S : List α) (f : α → Bool) (z : α) (i : Nat) (h : i < S.length) : (S.take (i + 1)).any f = ((S.take i).any f || f (S.getD i z)) := by
  rw [List.take_add_one, List.getElem?_eq_getElem h, List.any_append, List.getD_eq_getElem?_getD, List.getElem?_eq_getElem h]
  simp
/-- Are they one? -/
def eqB (x y : Bd) : Bool := (x.p.toList == y.p.toList) && ((x.n.toList == y.n.toList) && ((x.s.toList == y.s.toList) && (x.v == y.v)))
theorem eqB_self (x : Bd) : eqB x x = true := by unfold eqB; simp
theorem row_cells4 {w : World} {a : Option Addr} {n c : Nat} {l : List Bv} (H : Row kBv w (.slice a n c) l) (k : Nat) (hk : k < l.length) : ∃ b off, a = some ⟨b, off, none⟩ ∧ ∀ W, Below w.heap.size w W → W.cell? ⟨b, off + k * 4, none⟩ = some (.string (l.getD k Bv.z).1.p) ∧ W.cell? ⟨b, off + k * 4 + 1, none⟩ = some (.string (l.getD k Bv.z).1.n) ∧ W.cell? ⟨b, off + k * 4 + 2, none⟩ = some (.string (l.getD k Bv.z).1.s) ∧ W.cell? ⟨b, off + k * 4 + 3, none⟩ = some (.int .i64 (l.getD k Bv.z).1.v) := by
  obtain ⟨b, off, e, h0, h1, h2, h3⟩ := row_atB H k hk
  have c : ∀ {ad : Addr} {y : Value}, w.cell? ad = some y → ∀ W, Below w.heap.size w W → W.cell? ad = some y := fun h W hW => (hW.cell (block_lt_of_cell h)).trans h
  exact ⟨b, off, e, fun W hW => ⟨c h0 W hW, c h1 W hW, c h2 W hW, c h3 W hW⟩⟩
theorem row_cellsP {w : World} {a : Option Addr} {n c : Nat} {l : List Pt} (H : Row kPt w (.slice a n c) l) (h0 : 0 < l.length) : ∃ b off, a = some ⟨b, off, none⟩ ∧ ∀ W, Below w.heap.size w W → ∀ q, q < l.length → W.cell? ⟨b, off + q, none⟩ = some (.string (l.getD q Pt.z).1) := by
  obtain ⟨b, off, e, _⟩ := H.at 0 h0
  refine ⟨b, off, e, fun W hW q hq => ?_⟩
  obtain ⟨b', off', e', hc⟩ := H.at q hq
  rw [e] at e'
  simp only [Option.some.injEq, Addr.mk.injEq, and_true] at e'
  obtain ⟨rfl, rfl⟩ := e'
  have h := hc 0 _ rfl
  have e2 : off + q * kPt.k + 0 = off + q := by show off + q * 1 + 0 = off + q; omega
  rw [e2] at h
  exact (hW.cell (block_lt_of_cell h)).trans h
set_option maxHeartbeats 16000000 in
set_option maxRecDepth 100000 in
theorem says_any (u : ByteArray) (v : Int) (path : ByteArray) (w : World) (t b nn : Nat) (D : DataW Unit) (H : Ta w t b nn D) (hn : nn ≤ 1000000) (hI : Iv D) :
    Calls Tryz.prog 13 #[.pointer (some ⟨t, 0, none⟩), .string u, .int .i64 v, .string path] w fun e w' => e = .returned (.bool true) ∧ Below w.heap.size w w' := by
  have HH := Lib.hid H
  have II := Lib.hid hI
  have NN := Lib.hid hn
  have SZ := Lib.hid (Nat.le_trans H.tb.m.size_le hn)
  have LI := Lib.hid (list_any w t b nn D H hn hI.vl)
  clear H hn hI
  go_enter Tryz.func13, Tryz.ntmps13
  go_wp2_with fail
  refine LI.out.mono ?_
  rintro e w1 ⟨v1, S, rfl, hrow, hli, hb1⟩
  obtain ⟨a0, c0, rfl, _, _⟩ := hrow.len
  obtain ⟨n0, hn0⟩ : ∃ n, n = S.length := ⟨_, rfl⟩
  have hn1 : n0 ≤ 1000000 := by have := hli.n; have := SZ.out; omega
  rw [← hn0] at hrow ⊢
  have L1 : Hid (Row kBv w1 (.slice a0 n0 c0) S ∧ Li D S ∧ Below w.heap.size w w1 ∧ n0 = S.length) := Lib.hid ⟨hrow, hli, hb1, hn0⟩
  clear hrow hli hb1 hn0 LI
  go_wp2_with fail
  go_loopg [10, 11] n0 (fun gg s10 si wr => ∃ (i : Nat) (an : Bool), i ≤ n0 ∧ gg = n0 - i ∧ si = .int .i64 i ∧ s10 = .bool an ∧ Hid (an = (S.take i).any (fun y => givB y.1 u v path) ∧ Below w1.heap.size w1 wr))
  case atStart => exact ⟨0, false, by omega, rfl, rfl, rfl, Lib.hid ⟨by simp, Below.refl _ _⟩⟩
  case round =>
    obtain ⟨i, an, hi, hg, rfl, rfl, Q⟩ := hrel
    have G := Lib.hid hg
    clear hg
    by_cases h0 : i < n0
    · as_aux_lemma =>
      have h0' : (i : Int) < (n0 : Int) := by omega
      have T4 := Lib.hid (any_take S (fun y => givB y.1 u v path) Bv.z i (by rw [← L1.out.2.2.2]; exact h0))
      cases an with
      | true =>
        have AE : Hid (true = (S.take (i + 1)).any (fun y => givB y.1 u v path)) := Lib.hid (by rw [T4.out, ← Q.out.1]; rfl)
        go_wp2_with fail
        go_roundg (n0 - (i + 1))
        case measure => have := G.out; omega
        case rel => exact ⟨i + 1, true, by omega, rfl, by go_num, rfl, Lib.hid ⟨AE.out, Q.out.2⟩⟩
      | false =>
        obtain ⟨bb, off, ea, p0, p1, p2, p3⟩ := row_atB (L1.out.1.below Q.out.2) i (by rw [← L1.out.2.2.2]; exact h0)
        subst ea
        obtain ⟨⟨xp, xn, xs, xv⟩, hx⟩ : ∃ x, x = (S.getD i Bv.z).1 := ⟨_, rfl⟩
        rw [← hx] at p0 p1 p2 p3
        simp only at p0 p1 p2 p3
        obtain ⟨gv, hgv⟩ : ∃ g, g = givB ⟨xp, xn, xs, xv⟩ u v path := ⟨_, rfl⟩
        have AE : Hid (gv = (S.take (i + 1)).any (fun y => givB y.1 u v path)) := Lib.hid (by rw [T4.out, ← Q.out.1, ← hx, ← hgv]; rfl)
        have GV := Lib.hid (gives_any ⟨xp, xn, xs, xv⟩ u v path wr ((HH.out.hm.below L1.out.2.2.1).below Q.out.2))
        rw [← hgv] at GV
        unfold Bd.val at GV
        simp only at GV
        clear hx hgv
        go_wp2_with fail
        refine GV.out.mono ?_
        rintro e w2 ⟨rfl, hb⟩
        have B2 := Lib.hid (Q.out.2.trans (hb.mono Q.out.2.size))
        clear hb GV p0 p1 p2 p3
        go_wp2_with fail
        go_roundg (n0 - (i + 1))
        case measure => have := G.out; omega
        case rel => exact ⟨i + 1, gv, by omega, rfl, by go_num, rfl, Lib.hid ⟨AE.out, B2.out⟩⟩
    · have AN : Hid (an = true ↔ ∃ x, InD D x ∧ isB x.s x.v u v = true ∧ x.p ∈ lineP path) := Lib.hid (by
        have e : S.take i = S := List.take_of_length_le (by rw [← L1.out.2.2.2]; omega)
        rw [Q.out.1, e]
        exact any_giv II.out L1.out.2.1)
      have B1 : Hid (Below w.heap.size w wr ∧ Below w1.heap.size w1 wr) := Lib.hid ⟨L1.out.2.2.1.trans (Q.out.2.mono L1.out.2.2.1.size), Q.out.2⟩
      have WY := Lib.hid (why_ex u v path wr t b nn D (HH.out.below B1.out.1))
      clear Q G
      go_wp2_with fail
      refine WY.out.mono ?_
      rintro e w2 ⟨⟨ok, ⟨zp, zn, zs, zv⟩⟩, rfl, hny, hb2⟩
      have OK : ok = an := by rw [Bool.eq_iff_iff, AN.out]; exact hny.one
      subst OK
      unfold Bd.val
      simp only
      obtain ⟨g12, hg12⟩ : ∃ g, g = w2.heap.size := ⟨_, rfl⟩
      obtain ⟨X, hX⟩ : ∃ X, X = w2.alloc (.cells #[.string zp, .string zn, .string zs, .int .i64 zv] 26) := ⟨_, rfl⟩
      have X1 : Hid (Ny D u v path (ok, ⟨zp, zn, zs, zv⟩) ∧ Below w.heap.size w X ∧ Below w1.heap.size w1 X ∧ X.heap[g12]? = some (.cells #[.string zp, .string zn, .string zs, .int .i64 zv] 26 (0, 0))) := Lib.hid (by
        have bX : Below w2.heap.size w2 X := by rw [hX]; exact (Below.refl _ _).alloc (Nat.le_refl _) _
        have b2 : Below w.heap.size w w2 := B1.out.1.trans (hb2.mono B1.out.1.size)
        have b3 : Below w1.heap.size w1 w2 := B1.out.2.trans (hb2.mono B1.out.2.size)
        exact ⟨hny, b2.trans (bX.mono b2.size), b3.trans (bX.mono b3.size), by rw [hX, hg12, heap_alloc_new]⟩)
      have hX' := hX.symm
      have hg' := hg12.symm
      have z0 : X.cell? ⟨g12, 0, none⟩ = some (.string zp) := by rw [cell_of_row _ _ _ _ _ _ X1.out.2.2.2]; rfl
      have z1 : X.cell? ⟨g12, 1, none⟩ = some (.string zn) := by rw [cell_of_row _ _ _ _ _ _ X1.out.2.2.2]; rfl
      have z2 : X.cell? ⟨g12, 2, none⟩ = some (.string zs) := by rw [cell_of_row _ _ _ _ _ _ X1.out.2.2.2]; rfl
      have z3 : X.cell? ⟨g12, 3, none⟩ = some (.int .i64 zv) := by rw [cell_of_row _ _ _ _ _ _ X1.out.2.2.2]; rfl
      clear hX hg12 hny hb2 WY
      go_upto_region 8 with fail
      go_cut [60] (fun s60 wx => s60 = .bool false ∧ wx = X)
      case first => as_aux_lemma =>
        cases ok with
        | true =>
          go_wp2_with fail
          go_meet
          case rel => exact ⟨rfl, rfl⟩
        | false =>
          have e := (X1.out.1.n rfl).1
          unfold Bd.z at e
          simp only [Bd.mk.injEq] at e
          obtain ⟨rfl, rfl, rfl, rfl⟩ := e
          go_wp2_with fail
          go_meet
          case rel => exact ⟨rfl, rfl⟩
      case rest =>
        obtain ⟨rfl, rfl⟩ := hcut
        have ZI : Hid (ok = true → InD D ⟨zp, zn, zs, zv⟩ ∧ isB zs zv u v = true ∧ zp ∈ lineP path) := Lib.hid (fun h => (X1.out.1.y h).1)
        have NR : Hid (ok = true → ∀ x, InD D x → isB x.s x.v u v = true → x.p ∈ lineP path → ¬ (L.splitT zp).length < (L.splitT x.p).length ∧ ¬ (x.p = zp ∧ x.n.data.toList < zn.data.toList)) := Lib.hid (fun h x a c d => near_not X1.out.1 h a c d)
        have X2 : Hid (Below w.heap.size w wc ∧ Below w1.heap.size w1 wc ∧ wc.heap[g12]? = some (.cells #[.string zp, .string zn, .string zs, .int .i64 zv] 26 (0, 0))) := Lib.hid X1.out.2
        clear X1 hX' hg' z0 z1 z2 z3
        go_wp2_with fail
        go_loopg [14, 15] n0 (fun gg s14 si wr => ∃ (i : Nat) (inn : Bool), i ≤ n0 ∧ gg = n0 - i ∧ si = .int .i64 i ∧ s14 = .bool inn ∧ Hid (inn = (S.take i).any (fun y => eqB y.1 ⟨zp, zn, zs, zv⟩) ∧ Below wc.heap.size wc wr))
        case atStart => exact ⟨0, false, by omega, rfl, rfl, rfl, Lib.hid ⟨by simp, Below.refl _ _⟩⟩
        case round =>
          obtain ⟨j, inn, hj, hg, rfl, rfl, Q⟩ := hrel
          have G := Lib.hid hg
          clear hg
          by_cases h1 : j < n0
          · have h1' : (j : Int) < (n0 : Int) := by omega
            have hj0 : ¬ (j : Int) < 0 := by omega
            have d0 : decide ((j : Int) < 0) = false := decide_eq_false hj0
            have T4 := Lib.hid (any_take S (fun y => eqB y.1 ⟨zp, zn, zs, zv⟩) Bv.z j (by rw [← L1.out.2.2.2]; exact h1))
            obtain ⟨⟨xp, xn, xs, xv⟩, hx⟩ : ∃ x, x = (S.getD j Bv.z).1 := ⟨_, rfl⟩
            have XI : Hid (InD D ⟨xp, xn, xs, xv⟩) := Lib.hid (by
              rw [hx]
              exact (L1.out.2.1.m _).1 ⟨S.getD j Bv.z, getD_inB (by rw [← L1.out.2.2.2]; exact h1), rfl⟩)
            have CELLS : Hid (∃ bb off, a0 = some ⟨bb, off, none⟩ ∧ ∀ W, Below wc.heap.size wc W → W.cell? ⟨bb, off + j * 4, none⟩ = some (.string xp) ∧ W.cell? ⟨bb, off + j * 4 + 1, none⟩ = some (.string xn) ∧ W.cell? ⟨bb, off + j * 4 + 2, none⟩ = some (.string xs) ∧ W.cell? ⟨bb, off + j * 4 + 3, none⟩ = some (.int .i64 xv) ∧ W.cell? ⟨g12, 0, none⟩ = some (.string zp) ∧ W.cell? ⟨g12, 1, none⟩ = some (.string zn) ∧ W.cell? ⟨g12, 2, none⟩ = some (.string zs) ∧ W.cell? ⟨g12, 3, none⟩ = some (.int .i64 zv)) := Lib.hid (by
              obtain ⟨bb, off, ea, q⟩ := row_cells4 L1.out.1 j (by rw [← L1.out.2.2.2]; exact h1)
              refine ⟨bb, off, ea, fun W hW => ?_⟩
              obtain ⟨q0, q1, q2, q3⟩ := q W (X2.out.2.1.trans (hW.mono X2.out.2.1.size))
              rw [← hx] at q0 q1 q2 q3
              have hz := (hW.block g12 (lt_of_some X2.out.2.2)).trans X2.out.2.2
              refine ⟨q0, q1, q2, q3, ?_, ?_, ?_, ?_⟩ <;> rw [cell_of_row _ _ _ _ _ _ hz] <;> rfl)
            obtain ⟨bb, off, ea, CL0⟩ := CELLS.out
            have CL := Lib.hid CL0
            subst ea
            clear CL0 CELLS
            obtain ⟨dz, hdz⟩ : ∃ d, d = eqB ⟨xp, xn, xs, xv⟩ ⟨zp, zn, zs, zv⟩ := ⟨_, rfl⟩
            have AE : Hid ((inn || dz) = (S.take (j + 1)).any (fun y => eqB y.1 ⟨zp, zn, zs, zv⟩)) := Lib.hid (by rw [T4.out, ← Q.out.1, ← hx, ← hdz])
            unfold eqB at hdz
            simp only at hdz
            have DZ := Lib.hid hdz
            clear hx hdz T4
            go_upto_region 14 with fail
            go_cut [14] (fun s14 wx => s14 = .bool (inn || dz) ∧ Hid (Below wr.heap.size wr wx))
            case first => as_aux_lemma =>
              cases inn with
              | true =>
                go_quiet (fail)
                go_wp2_with fail
                go_meet
                case rel => exact ⟨rfl, Lib.hid (below_drawn wr _)⟩
              | false =>
                obtain ⟨p0, p1, p2, p3, z0, z1, z2, z3⟩ := CL.out wr Q.out.2
                have DE : Hid (dz = ((xp.toList == zp.toList) && ((xn.toList == zn.toList) && ((xs.toList == zs.toList) && (xv == zv))))) := DZ
                clear DZ AE
                cases e1 : (xp.toList == zp.toList) with
                | false =>
                  have DF : Hid (dz = false) := Lib.hid (by rw [DE.out, e1]; rfl)
                  go_quiet (fail)
                  go_wp2_with fail
                  go_meet
                  case rel => exact ⟨by rw [DF.out]; rfl, Lib.hid (below_drawn wr _)⟩
                | true =>
                  cases e2 : (xn.toList == zn.toList) with
                  | false =>
                    have DF : Hid (dz = false) := Lib.hid (by rw [DE.out, e1, e2]; rfl)
                    go_quiet (fail)
                    go_wp2_with fail
                    go_meet
                    case rel => exact ⟨by rw [DF.out]; rfl, Lib.hid (below_drawn wr _)⟩
                  | true =>
                    cases e3 : (xs.toList == zs.toList) with
                    | false =>
                      have DF : Hid (dz = false) := Lib.hid (by rw [DE.out, e1, e2, e3]; rfl)
                      go_quiet (fail)
                      go_wp2_with fail
                      go_meet
                      case rel => exact ⟨by rw [DF.out]; rfl, Lib.hid (below_drawn wr _)⟩
                    | true =>
                      cases e4 : (xv == zv) with
                      | false =>
                        have DF : Hid (dz = false) := Lib.hid (by rw [DE.out, e1, e2, e3, e4]; rfl)
                        go_quiet (fail)
                        go_wp2_with fail
                        go_meet
                        case rel => exact ⟨by rw [DF.out]; rfl, Lib.hid (below_drawn wr _)⟩
                      | true =>
                        have DF : Hid (dz = true) := Lib.hid (by rw [DE.out, e1, e2, e3, e4]; rfl)
                        go_quiet (fail)
                        go_wp2_with fail
                        go_meet
                        case rel => exact ⟨by rw [DF.out]; rfl, Lib.hid (below_drawn wr _)⟩
            case rest =>
              obtain ⟨rfl, BC⟩ := hcut
              have BQ := Lib.hid (Q.out.2.trans (BC.out.mono Q.out.2.size))
              have HM := Lib.hid ((HH.out.hm.below X2.out.1).below BQ.out)
              have CQ : Hid (∀ (dq : Nat) (os : Array Obj), (Go.Sort.grow (redrawn wc dq) os).cell? ⟨bb, off + j * 4, none⟩ = some (.string xp) ∧ (Go.Sort.grow (redrawn wc dq) os).cell? ⟨bb, off + j * 4 + 1, none⟩ = some (.string xn) ∧ (Go.Sort.grow (redrawn wc dq) os).cell? ⟨bb, off + j * 4 + 2, none⟩ = some (.string xs) ∧ (Go.Sort.grow (redrawn wc dq) os).cell? ⟨bb, off + j * 4 + 3, none⟩ = some (.int .i64 xv) ∧ (Go.Sort.grow (redrawn wc dq) os).cell? ⟨g12, 0, none⟩ = some (.string zp) ∧ (Go.Sort.grow (redrawn wc dq) os).cell? ⟨g12, 1, none⟩ = some (.string zn)) := Lib.hid (fun dq os => by
                obtain ⟨p0, p1, p2, p3, z0, z1, z2, z3⟩ := CL.out wc BQ.out
                exact ⟨cell_regrown p0 dq os, cell_regrown p1 dq os, cell_regrown p2 dq os, cell_regrown p3 dq os, cell_regrown z0 dq os, cell_regrown z1 dq os⟩)
              go_upto_region 15 with fail
              go_cut [118] (fun s118 wx => s118 = .bool false ∧ Hid (Below wc.heap.size wc wx))
              case first => as_aux_lemma =>
                cases ok with
                | false =>
                  go_quiet (fail)
                  go_wp2_with fail
                  go_meet
                  case rel => exact ⟨rfl, Lib.hid (below_drawn wc _)⟩
                | true =>
                  obtain ⟨gv, hgv⟩ : ∃ g, g = givB ⟨xp, xn, xs, xv⟩ u v path := ⟨_, rfl⟩
                  obtain ⟨nx, hnx⟩ : ∃ k, k = (L.splitT xp).length := ⟨_, rfl⟩
                  obtain ⟨nz, hnz⟩ : ∃ k, k = (L.splitT zp).length := ⟨_, rfl⟩
                  have GQ : Hid (∀ (dq : Nat) (os : Array Obj), Calls Tryz.prog 10 #[.agg #[.string xp, .string xn, .string xs, .int .i64 xv], .string u, .int .i64 v, .string path] (Go.Sort.grow (redrawn wc dq) os) fun e w'' => e = .returned (.bool gv) ∧ ∃ p : Regrown, w'' = Go.Sort.grow (redrawn wc p.d) p.os) := Lib.hid (fun dq os => by rw [hgv]; exact Calls.regrown_of (gives_any ⟨xp, xn, xs, xv⟩ u v path _ (HM.out.below (below_regrown wc dq os))))
                  have NQ : Hid (∀ (dq : Nat) (os : Array Obj), Calls Tryz.prog 32 #[.string xp] (Go.Sort.grow (redrawn wc dq) os) fun e w'' => e = .returned (.int .i64 (nx : Int)) ∧ ∃ p : Regrown, w'' = Go.Sort.grow (redrawn wc p.d) p.os) := Lib.hid (fun dq os => by rw [hnx]; exact Calls.regrown_of (names_any xp _ (HM.out.below (below_regrown wc dq os))))
                  have MQ : Hid (∀ (dq : Nat) (os : Array Obj), Calls Tryz.prog 32 #[.string zp] (Go.Sort.grow (redrawn wc dq) os) fun e w'' => e = .returned (.int .i64 (nz : Int)) ∧ ∃ p : Regrown, w'' = Go.Sort.grow (redrawn wc p.d) p.os) := Lib.hid (fun dq os => by rw [hnz]; exact Calls.regrown_of (names_any zp _ (HM.out.below (below_regrown wc dq os))))
                  have FAR : Hid (gv = true → ¬ nz < nx ∧ ¬ (xp = zp ∧ xn.data.toList < zn.data.toList)) := Lib.hid (fun h => by
                    rw [hgv] at h
                    obtain ⟨q1, q2⟩ := (giv_iff II.out XI.out).1 h
                    rw [hnx, hnz]
                    exact NR.out rfl _ XI.out q1 q2)
                  have e0 : ∀ (dq : Nat) (os : Array Obj), (Go.Sort.grow (redrawn wc dq) os).cell? ⟨bb, off + j * 4, none⟩ = some (.string xp) := fun dq os => (CQ.out dq os).1
                  have e1 : ∀ (dq : Nat) (os : Array Obj), (Go.Sort.grow (redrawn wc dq) os).cell? ⟨bb, off + j * 4 + 1, none⟩ = some (.string xn) := fun dq os => (CQ.out dq os).2.1
                  have e2 : ∀ (dq : Nat) (os : Array Obj), (Go.Sort.grow (redrawn wc dq) os).cell? ⟨bb, off + j * 4 + 2, none⟩ = some (.string xs) := fun dq os => (CQ.out dq os).2.2.1
                  have e3 : ∀ (dq : Nat) (os : Array Obj), (Go.Sort.grow (redrawn wc dq) os).cell? ⟨bb, off + j * 4 + 3, none⟩ = some (.int .i64 xv) := fun dq os => (CQ.out dq os).2.2.2.1
                  have f0 : ∀ (dq : Nat) (os : Array Obj), (Go.Sort.grow (redrawn wc dq) os).cell? ⟨g12, 0, none⟩ = some (.string zp) := fun dq os => (CQ.out dq os).2.2.2.2.1
                  have f1 : ∀ (dq : Nat) (os : Array Obj), (Go.Sort.grow (redrawn wc dq) os).cell? ⟨g12, 1, none⟩ = some (.string zn) := fun dq os => (CQ.out dq os).2.2.2.2.2
                  clear hgv hnx hnz AE DZ
                  cases gv with
                  | false =>
                    refine wp_region_quiet_below (by kernel_rfl) (by kernel_rfl) ?_
                    repeat (go_big_quiet_step (first | with_reducible exact GQ.out _ _ | with_reducible exact NQ.out _ _ | with_reducible exact MQ.out _ _))
                    refine wpQuiet_nil ?_
                    intro _ hw'
                    obtain ⟨⟨dq, osq⟩, hw''⟩ := hw'
                    subst hw''
                    go_wp2_with fail
                    go_meet
                    case rel => exact ⟨rfl, Lib.hid (below_regrown wc dq osq)⟩
                  | true =>
                    obtain ⟨F1, F2⟩ := FAR.out rfl
                    have k1 : ¬ (nx : Int) > (nz : Int) := by omega
                    have k2 : decide ((nx : Int) > (nz : Int)) = false := decide_eq_false k1
                    have k3 : decide ((nz : Int) < (nx : Int)) = false := decide_eq_false k1
                    have k4 : decide (nz < nx) = false := decide_eq_false F1
                    cases q1 : (xp.toList == zp.toList) with
                    | false =>
                      clear F1 F2
                      refine wp_region_quiet_below (by kernel_rfl) (by kernel_rfl) ?_
                      repeat (go_big_quiet_step (first | with_reducible exact GQ.out _ _ | with_reducible exact NQ.out _ _ | with_reducible exact MQ.out _ _))
                      refine wpQuiet_nil ?_
                      intro _ hw'
                      obtain ⟨⟨dq, osq⟩, hw''⟩ := hw'
                      subst hw''
                      go_wp2_with fail
                      go_meet
                      case rel => exact ⟨rfl, Lib.hid (below_regrown wc dq osq)⟩
                    | true =>
                      have q2 : Op.bytesLess xn.toList zn.toList = false := by
                        rw [bytesLess_eq, ByteArray.toList_eq, ByteArray.toList_eq]
                        exact decide_eq_false (fun h => F2 ⟨(teq_iff _ _).1 q1, h⟩)
                      clear F1 F2
                      refine wp_region_quiet_below (by kernel_rfl) (by kernel_rfl) ?_
                      repeat (go_big_quiet_step (first | with_reducible exact GQ.out _ _ | with_reducible exact NQ.out _ _ | with_reducible exact MQ.out _ _))
                      refine wpQuiet_nil ?_
                      intro _ hw'
                      obtain ⟨⟨dq, osq⟩, hw''⟩ := hw'
                      subst hw''
                      go_wp2_with fail
                      go_meet
                      case rel => exact ⟨rfl, Lib.hid (below_regrown wc dq osq)⟩
              case rest =>
                obtain ⟨rfl, BD⟩ := hcut
                have BE := Lib.hid (BQ.out.trans (BD.out.mono BQ.out.size))
                clear BQ CQ HM
                go_wp2_with fail
                go_roundg (n0 - (j + 1))
                case measure => have := G.out; omega
                case rel => exact ⟨j + 1, _, by omega, rfl, by go_num, rfl, Lib.hid ⟨AE.out, BE.out⟩⟩
          · have IE : Hid (inn = S.any (fun y => eqB y.1 ⟨zp, zn, zs, zv⟩)) := Lib.hid (by
              have e : S.take j = S := List.take_of_length_le (by rw [← L1.out.2.2.2]; omega)
              rw [Q.out.1, e])
            have BX : Hid (Below w.heap.size w wr ∧ wr.heap[g12]? = some (.cells #[.string zp, .string zn, .string zs, .int .i64 zv] 26 (0, 0))) := Lib.hid ⟨X2.out.1.trans (Q.out.2.mono X2.out.1.size), (Q.out.2.block g12 (lt_of_some X2.out.2.2)).trans X2.out.2.2⟩
            have HM := Lib.hid (HH.out.below BX.out.1)
            have INN : Hid (ok = true → inn = true) := Lib.hid (fun h => by
              rw [IE.out, List.any_eq_true]
              obtain ⟨y, hy, e⟩ := (L1.out.2.1.m _).2 (ZI.out h).1
              exact ⟨y, hy, by rw [e]; exact eqB_self _⟩)
            have GZ : Hid (ok = true → givB ⟨zp, zn, zs, zv⟩ u v path = true) := Lib.hid (fun h => (giv_iff II.out (ZI.out h).1).2 (ZI.out h).2)
            clear Q G IE NR ZI X2
            go_upto_region 17 with fail
            go_cut [131] (fun s131 wx => s131 = .bool false ∧ Hid (Below wr.heap.size wr wx))
            case first => as_aux_lemma =>
              cases ok with
              | false =>
                go_wp2_with fail
                go_meet
                case rel => exact ⟨rfl, Lib.hid (Below.refl _ _)⟩
              | true =>
                have e := INN.out rfl
                subst e
                have GW := Lib.hid (gives_any ⟨zp, zn, zs, zv⟩ u v path wr HM.out.hm)
                rw [GZ.out rfl] at GW
                unfold Bd.val at GW
                simp only at GW
                have z0 : wr.cell? ⟨g12, 0, none⟩ = some (.string zp) := by rw [cell_of_row _ _ _ _ _ _ BX.out.2]; rfl
                have z1 : wr.cell? ⟨g12, 1, none⟩ = some (.string zn) := by rw [cell_of_row _ _ _ _ _ _ BX.out.2]; rfl
                have z2 : wr.cell? ⟨g12, 2, none⟩ = some (.string zs) := by rw [cell_of_row _ _ _ _ _ _ BX.out.2]; rfl
                have z3 : wr.cell? ⟨g12, 3, none⟩ = some (.int .i64 zv) := by rw [cell_of_row _ _ _ _ _ _ BX.out.2]; rfl
                go_wp2_with fail
                refine GW.out.mono ?_
                rintro e w5 ⟨rfl, hb⟩
                have B5 := Lib.hid hb
                clear hb GW z0 z1 z2 z3
                go_wp2_with fail
                go_meet
                case rel => exact ⟨rfl, B5⟩
            case rest =>
              obtain ⟨rfl, BC⟩ := hcut
              have BY : Hid (Below w.heap.size w wc) := Lib.hid (BX.out.1.trans (BC.out.mono BX.out.1.size))
              have TC := Lib.hid (HH.out.below BY.out)
              obtain ⟨pe, hpe⟩ : ∃ pe, pe = L.splitE path := ⟨_, rfl⟩
              obtain ⟨rt, hrt⟩ : ∃ r, r = (vbB v && decide (pe = 0)) := ⟨_, rfl⟩
              have PE := Lib.hid hpe
              have RT := Lib.hid hrt
              clear BC BX HM INN GZ hpe hrt
              go_upto_region 19 with fail
              go_cut [16] (fun s16 wx => s16 = .bool rt ∧ Hid (Below wc.heap.size wc wx))
              case first => as_aux_lemma =>
                have PA := Lib.hid (L.path_any path wc TC.out.hm)
                rw [← PE.out] at PA
                by_cases b0 : 0 ≤ v
                · have d0 : decide (0 ≤ v) = true := decide_eq_true b0
                  have d0' : decide (v ≥ 0) = true := decide_eq_true b0
                  by_cases b1 : v ≤ 3
                  · have d1 : decide (v ≤ 3) = true := decide_eq_true b1
                    have RE : Hid (rt = decide (pe = 0)) := Lib.hid (by rw [RT.out]; unfold vbB; rw [d0, d1]; rfl)
                    go_wp2_with fail
                    refine PA.out.mono ?_
                    rintro e w5 ⟨rfl, hb⟩
                    have B5 := Lib.hid hb
                    clear hb PA
                    by_cases hp : pe = 0
                    · have g0 : (pe == 0) = true := by rw [beq_iff_eq]; exact hp
                      have RF : Hid (rt = true) := Lib.hid (by rw [RE.out]; exact decide_eq_true hp)
                      clear hp
                      go_wp2_with fail
                      go_meet
                      case rel => exact ⟨by rw [RF.out], B5⟩
                    · have g0 : (pe == 0) = false := by rw [beq_eq_false_iff_ne]; exact hp
                      have RF : Hid (rt = false) := Lib.hid (by rw [RE.out]; exact decide_eq_false hp)
                      clear hp
                      go_wp2_with fail
                      go_meet
                      case rel => exact ⟨by rw [RF.out], B5⟩
                  · have d1 : decide (v ≤ 3) = false := decide_eq_false b1
                    have RF : Hid (rt = false) := Lib.hid (by rw [RT.out]; unfold vbB; rw [d0, d1]; rfl)
                    go_wp2_with fail
                    go_meet
                    case rel => exact ⟨by rw [RF.out], Lib.hid (Below.refl _ _)⟩
                · have d0 : decide (0 ≤ v) = false := decide_eq_false b0
                  have d0' : decide (v ≥ 0) = false := decide_eq_false b0
                  have RF : Hid (rt = false) := Lib.hid (by rw [RT.out]; unfold vbB; rw [d0]; rfl)
                  go_wp2_with fail
                  go_meet
                  case rel => exact ⟨by rw [RF.out], Lib.hid (Below.refl _ _)⟩
              case rest =>
                obtain ⟨rfl, BD⟩ := hcut
                have BZ : Hid (Below w.heap.size w wc) := Lib.hid (BY.out.trans (BD.out.mono BY.out.size))
                have MA := Lib.hid (may_any u v path wc t b nn D (HH.out.below BZ.out))
                clear BY BD TC
                go_wp2_with fail
                refine MA.out.mono ?_
                rintro e w6 ⟨r, rfl, hr, hb⟩
                have B6 : Hid (Below w.heap.size w w6) := Lib.hid (BZ.out.trans (hb.mono BZ.out.size))
                clear hb MA BZ
                by_cases hu : u = rootT
                · have ge : (u.toList == [114, 111, 111, 116]) = true := by rw [hu, ByteArray.toList_eq]; rfl
                  have RR : r = rt := by
                    rw [Bool.eq_iff_iff, hr, RT.out, Bool.and_eq_true, decide_eq_true_eq, PE.out]
                    constructor
                    · rintro (⟨_, a, c⟩ | ⟨a, _⟩)
                      · exact ⟨a, c⟩
                      · exact absurd hu a
                    · rintro ⟨a, c⟩
                      exact Or.inl ⟨hu, a, c⟩
                  subst RR
                  have q : (r == r) = true := beq_self_eq_true _
                  clear hr hu
                  go_wp2_with fail
                  go_ret
                  exact ⟨rfl, B6.out⟩
                · as_aux_lemma =>
                  have ge : (u.toList == [114, 111, 111, 116]) = false := by
                    have q := teq_no hu
                    rw [show rootT.toList = [114, 111, 111, 116] by rw [ByteArray.toList_eq]; rfl] at q
                    exact q
                  have RO : r = ok := by
                    rw [Bool.eq_iff_iff, hr, AN.out]
                    constructor
                    · rintro (⟨a, _⟩ | ⟨_, q⟩)
                      · exact absurd a hu
                      · exact q
                    · intro q
                      exact Or.inr ⟨hu, q⟩
                  subst RO
                  have UR := Lib.hid hu
                  have q : (r != r) = false := bne_self_eq_false _
                  have RC := Lib.hid (reach_any u v w6 t b nn D (HH.out.below B6.out) NN.out II.out.vl)
                  clear hr hu
                  go_wp2_with fail
                  refine RC.out.mono ?_
                  rintro e w7 ⟨vv, T, rfl, ho, hrc, hb⟩
                  have hrow := ho.row okPt
                  obtain ⟨a7, c7, rfl, _, hc7⟩ := hrow.len
                  obtain ⟨n7, hn7⟩ : ∃ n, n = T.length := ⟨_, rfl⟩
                  have hn8 : n7 ≤ 9223372036854775807 := by unfold maxLen at hc7; omega
                  rw [← hn7] at hrow ⊢
                  have R7 : Hid (Row kPt w7 (.slice a7 n7 c7) T ∧ Rc D u v T ∧ Below w.heap.size w w7 ∧ n7 = T.length) := Lib.hid ⟨hrow, by
                    rcases hrc with q | q
                    · exact absurd q.1 UR.out
                    · exact q.2, B6.out.trans (hb.mono B6.out.size), hn7⟩
                  clear hrow ho hrc hb hn7 hc7 RC
                  go_wp2_with fail
                  go_loopg [19, 20] n7 (fun gg s19 si wy => ∃ (k : Nat) (ab : Bool), k ≤ n7 ∧ gg = n7 - k ∧ si = .int .i64 k ∧ s19 = .bool ab ∧ Hid (ab = (T.take k).any (fun y => L.underB path y.1) ∧ Below w7.heap.size w7 wy))
                  case atStart => exact ⟨0, false, by omega, rfl, rfl, rfl, Lib.hid ⟨by simp, Below.refl _ _⟩⟩
                  case round =>
                    obtain ⟨k, ab, hk, hg, rfl, rfl, Q⟩ := hrel
                    have G := Lib.hid hg
                    clear hg
                    by_cases h2 : k < n7
                    · as_aux_lemma =>
                      have h2' : (k : Int) < (n7 : Int) := by omega
                      have dk : decide ((k : Int) < 0) = false := decide_eq_false (by omega)
                      obtain ⟨bb, off, ea, pc⟩ := row_cellsP R7.out.1 (by rw [← R7.out.2.2.2]; omega)
                      rw [← R7.out.2.2.2] at pc
                      have CK := Lib.hid pc
                      subst ea
                      clear pc
                      obtain ⟨x, hx⟩ : ∃ x, x = T.getD k Pt.z := ⟨_, rfl⟩
                      have XM : Hid (x ∈ T) := Lib.hid (by rw [hx]; exact getD_inB (by rw [← R7.out.2.2.2]; exact h2))
                      have T4 := any_take T (fun y => L.underB path y.1) Pt.z k (by rw [← R7.out.2.2.2]; exact h2)
                      rw [← hx, ← Q.out.1] at T4
                      obtain ⟨uu, huu⟩ : ∃ q, q = L.underB path x.1 := ⟨_, rfl⟩
                      rw [← huu] at T4
                      have AE : Hid ((ab || uu) = (T.take (k + 1)).any (fun y => L.underB path y.1)) := Lib.hid T4.symm
                      have HX := Lib.hid hx
                      have HU := Lib.hid huu
                      have T7 := Lib.hid (HH.out.below (R7.out.2.2.1.trans (Q.out.2.mono R7.out.2.2.1.size)))
                      have p0 : wr.cell? ⟨bb, off + k, none⟩ = some (.string x.1) := by rw [CK.out wr Q.out.2 k h2, hx]
                      clear T4 hx huu
                      go_upto_region 30 with fail
                      go_cut [19] (fun s19 wx => s19 = .bool (ab || uu) ∧ Hid (Below wr.heap.size wr wx))
                      case first => as_aux_lemma =>
                        cases ab with
                        | true =>
                          go_wp2_with fail
                          go_meet
                          case rel => exact ⟨rfl, Lib.hid (Below.refl _ _)⟩
                        | false =>
                          have UN := Lib.hid (L.under_any path x.1 wr T7.out.hm)
                          rw [← HU.out] at UN
                          go_wp2_with fail
                          refine UN.out.mono ?_
                          rintro e w8 ⟨rfl, hb⟩
                          have B8 := Lib.hid hb
                          clear hb UN
                          go_wp2_with fail
                          go_meet
                          case rel => exact ⟨rfl, B8⟩
                      case rest =>
                        obtain ⟨rfl, BC⟩ := hcut
                        have B3 := Lib.hid (Q.out.2.trans (BC.out.mono Q.out.2.size))
                        clear BC Q T7 p0
                        go_wp2_with fail
                        go_loopg [21] n7 (fun gg sj wz => ∃ j : Nat, j ≤ n7 ∧ gg = n7 - j ∧ sj = .int .i64 j ∧ Hid (Below w7.heap.size w7 wz))
                        case atStart => exact ⟨0, by omega, rfl, rfl, B3⟩
                        case round =>
                          clear B3
                          obtain ⟨j, hj, hg, rfl, Y⟩ := hrel
                          have G4 := Lib.hid hg
                          clear hg
                          have T8 := Lib.hid (HH.out.below (R7.out.2.2.1.trans (Y.out.mono R7.out.2.2.1.size)))
                          have p0 : wr.cell? ⟨bb, off + k, none⟩ = some (.string x.1) := by rw [CK.out wr Y.out k h2, HX.out]
                          by_cases h3 : j < n7
                          · have h3' : (j : Int) < (n7 : Int) := by omega
                            have dj : decide ((j : Int) < 0) = false := decide_eq_false (by omega)
                            obtain ⟨y, hy⟩ : ∃ y, y = T.getD j Pt.z := ⟨_, rfl⟩
                            have p1 : wr.cell? ⟨bb, off + j, none⟩ = some (.string y.1) := by rw [CK.out wr Y.out j h3, hy]
                            have FAR : Hid (k ≠ j → L.underB x.1 y.1 = false) := Lib.hid (fun ne => by
                              have D7 := List.pairwise_iff_getElem.1 R7.out.2.1.d
                              have l1 : k < T.length := by rw [← R7.out.2.2.2]; exact h2
                              have l2 : j < T.length := by rw [← R7.out.2.2.2]; exact h3
                              rw [HX.out, hy, getD_ge _ _ _ l1, getD_ge _ _ _ l2]
                              rcases Nat.lt_or_gt_of_ne ne with q | q
                              · exact (D7 k j l1 l2 q).1
                              · exact (D7 j k l2 l1 q).2)
                            clear hy
                            go_upto_region 34 with fail
                            go_cut [194] (fun s194 wx => s194 = .bool false ∧ Hid (Below wr.heap.size wr wx))
                            case first => as_aux_lemma =>
                              by_cases ej : k = j
                              · subst ej
                                have q : ((k : Int) != (k : Int)) = false := bne_self_eq_false _
                                go_quiet (fail)
                                go_wp2_with fail
                                go_meet
                                case rel => exact ⟨rfl, Lib.hid (below_drawn wr _)⟩
                              · have q : ((k : Int) != (j : Int)) = true := by rw [bne_iff_ne]; omega
                                have UQ : Hid (∀ (dq : Nat) (os : Array Obj), Calls Tryz.prog 29 #[.string x.1, .string y.1] (Go.Sort.grow (redrawn wr dq) os) fun e w'' => e = .returned (.bool false) ∧ ∃ p : Regrown, w'' = Go.Sort.grow (redrawn wr p.d) p.os) := Lib.hid (fun dq os => by rw [← FAR.out ej]; exact Calls.regrown_of (L.under_any x.1 y.1 _ (T8.out.hm.below (below_regrown wr dq os))))
                                have e0 : ∀ (dq : Nat) (os : Array Obj), (Go.Sort.grow (redrawn wr dq) os).cell? ⟨bb, off + k, none⟩ = some (.string x.1) := fun dq os => cell_regrown p0 dq os
                                have e1 : ∀ (dq : Nat) (os : Array Obj), (Go.Sort.grow (redrawn wr dq) os).cell? ⟨bb, off + j, none⟩ = some (.string y.1) := fun dq os => cell_regrown p1 dq os
                                clear p0 p1 ej
                                refine wp_region_quiet_below (by kernel_rfl) (by kernel_rfl) ?_
                                repeat (go_big_quiet_step (first | with_reducible exact UQ.out _ _))
                                refine wpQuiet_nil ?_
                                intro _ hw'
                                obtain ⟨⟨dq, osq⟩, hw''⟩ := hw'
                                subst hw''
                                go_wp2_with fail
                                go_meet
                                case rel => exact ⟨rfl, Lib.hid (below_regrown wr dq osq)⟩
                            case rest =>
                              obtain ⟨rfl, BD⟩ := hcut
                              have BE := Lib.hid (Y.out.trans (BD.out.mono Y.out.size))
                              clear BD T8 p0 p1
                              go_wp2_with fail
                              go_roundg (n7 - (j + 1))
                              case measure => have := G4.out; omega
                              case rel => exact ⟨j + 1, by omega, rfl, by go_num, BE⟩
                          · have MA := Lib.hid (may_any u v x.1 wr t b nn D T8.out)
                            clear G4 T8
                            go_wp2_with fail
                            refine MA.out.mono ?_
                            rintro e w9 ⟨r9, rfl, h9, hb⟩
                            have e9 : r9 = true := h9.2 (rc_may R7.out.2.1 UR.out XM.out)
                            subst e9
                            have B9 := Lib.hid (Y.out.trans (hb.mono Y.out.size))
                            clear hb h9 MA p0
                            go_wp2_with fail
                            go_roundg (n7 - (k + 1))
                            case measure => have := G.out; omega
                            case rel => exact ⟨k + 1, _, by omega, rfl, by go_num, rfl, Lib.hid ⟨AE.out, B9.out⟩⟩
                    · have AB : ab = r := by
                        have e : T.take k = T := List.take_of_length_le (by rw [← R7.out.2.2.2]; omega)
                        rw [Bool.eq_iff_iff, Q.out.1, e, List.any_eq_true, AN.out]
                        exact rc_above R7.out.2.1
                      subst AB
                      have q2 : (ab == ab) = true := beq_self_eq_true _
                      go_wp2_with fail
                      go_ret
                      exact ⟨rfl, R7.out.2.2.1.trans (Q.out.2.mono R7.out.2.2.1.size)⟩
end Ac
end Go.Proofs.YtdhnpgciclbfeaaGreatDoor
