/-
  THE WALK of LedgerApart.
-/
import Derived.Test.YtodfmnbfbndkhaaGreatDoorLeApm
namespace Go.Proofs.YtodfmnbfbndkhaaGreatDoor
open Go.RowKit Go.Sort
namespace Le
set_option maxHeartbeats 16000000 in
set_option maxRecDepth 100000 in
theorem apart_walk (o : Ob) (ls ps : Value) (w : World) (G : Gl w) (hv : ObV w ls ps o) (hz : OSz o) (hs : PSz o.ps) (hp : o.p.size ≤ 140737488355328) :
    Calls Tryz.prog 3 #[o.val ls ps] w fun e w' => e = .returned (.bool true) ∧ Below w.heap.size w w' := by
  have GG := Lib.hid G
  have OV := Lib.hid hv
  have SZ := Lib.hid (And.intro hz (And.intro hs hp))
  obtain ⟨la, lc, rfl, _, _⟩ := hv.l.len
  obtain ⟨pa, pc, rfl, _, _⟩ := hv.p.len
  clear G hv hz hs hp
  have OWN : Hid (∀ W, Below w.heap.size w W → Calls Tryz.prog 10 #[o.val (.slice la o.ls.length lc) (.slice pa o.ps.length pc)] W fun e w' => ∃ xa xc ya yc, e = .returned (o.val (.slice xa o.ls.length xc) (.slice ya o.ps.length yc)) ∧ Hid (OwO W.heap.size w' (.slice xa o.ls.length xc) (.slice ya o.ps.length yc) o ∧ Below W.heap.size W w')) := Lib.hid fun W hb => by
    refine Calls.mono (own_any o _ _ W (OV.out.below hb) SZ.out.1) ?_
    rintro e w' ⟨xa, xc, ya, yc, rfl, h1, h2⟩
    exact ⟨xa, xc, ya, yc, rfl, Lib.hid ⟨h1, h2⟩⟩
  obtain ⟨X, hX⟩ : ∃ X, X = w.alloc (.cells #[.string o.p, .string o.n, .slice la o.ls.length lc, .int .i64 o.pr, .int .i64 o.dl, .slice pa o.ps.length pc, .int .i64 o.ver] 25) := ⟨_, rfl⟩
  have BX : Hid (Below w.heap.size w X) := Lib.hid (by rw [hX]; exact (Below.refl _ _).alloc (Nat.le_refl _) _)
  have GX : Hid (Gl X) := Lib.hid (GG.out.below BX.out)
  have LA : Hid (Calls Tryz.prog 9 #[] X fun e w' => ∃ t b n D, e = .returned (.pointer (some ⟨t, 0, none⟩)) ∧ Lv X w' t b n D (fun _ => 0) ∧ n ≤ 48) := Lib.hid (lives_any X GX.out)
  have KC : Hid (∀ W : World, Below X.heap.size X W → W.cell? ⟨w.heap.size, 0, none⟩ = some (.string o.p) ∧ W.cell? ⟨w.heap.size, 1, none⟩ = some (.string o.n) ∧ W.cell? ⟨w.heap.size, 2, none⟩ = some (.slice la o.ls.length lc) ∧ W.cell? ⟨w.heap.size, 3, none⟩ = some (.int .i64 o.pr) ∧ W.cell? ⟨w.heap.size, 4, none⟩ = some (.int .i64 o.dl) ∧ W.cell? ⟨w.heap.size, 5, none⟩ = some (.slice pa o.ps.length pc) ∧ W.cell? ⟨w.heap.size, 6, none⟩ = some (.int .i64 o.ver)) := Lib.hid fun W hb => by
    have q2 : ∀ j v, (#[.string o.p, .string o.n, .slice la o.ls.length lc, .int .i64 o.pr, .int .i64 o.dl, .slice pa o.ps.length pc, .int .i64 o.ver] : Array Value)[j]? = some v → W.cell? ⟨w.heap.size, j, none⟩ = some v := fun j v hv => by
      have e : X.cell? ⟨w.heap.size, j, none⟩ = some v := by rw [hX, World.cell?_alloc_new]; exact hv
      exact (hb.cell (block_lt_of_cell e)).trans e
    exact ⟨q2 0 _ rfl, q2 1 _ rfl, q2 2 _ rfl, q2 3 _ rfl, q2 4 _ rfl, q2 5 _ rfl, q2 6 _ rfl⟩
  unfold Ob.val at OWN ⊢
  have hX' := hX.symm
  clear hX
  go_enter Tryz.func3, Tryz.ntmps3
  go_wp2_with fail
  refine LA.out.mono ?_
  rintro e w1 ⟨t, b, n, D, rfl, h1, h2⟩
  have A1 := Lib.hid (And.intro h1 h2)
  obtain ⟨a0, a1, a2, a3, a4, a5, a6⟩ := KC.out w1 h1.bel
  clear h1 h2 LA
  go_wp2_with fail
  refine (OWN.out w1 (BX.out.trans (A1.out.1.bel.mono BX.out.size))).mono ?_
  rintro e w2 ⟨xa, xc, ya, yc, rfl, F2⟩
  clear a0 a1 a2 a3 a4 a5 a6
  have A2 : Hid (Lv X w2 t b n D (fun _ => 0) ∧ n ≤ 48) := Lib.hid ⟨A1.out.1.below F2.out.2, A1.out.2⟩
  have BY : Hid (∀ ob, Below w2.heap.size w2 (w2.alloc ob)) := Lib.hid fun ob => (Below.refl _ w2).alloc (Nat.le_refl _) _
  obtain ⟨E, hE⟩ : ∃ e, e = mvE true (fun _ => 0) o := ⟨_, rfl⟩
  have CH : Hid (∀ ob, Calls Tryz.prog 11 #[.pointer (some ⟨t, 0, none⟩), .agg #[.string o.p, .string o.n, .slice xa o.ls.length xc, .int .i64 o.pr, .int .i64 o.dl, .slice ya o.ps.length yc, .int .i64 o.ver]] (w2.alloc ob) fun e W' => e = .returned (.int .i64 E) ∧ Hid (∃ D' n', Lv X W' t b n' D' (mvF true (fun _ => 0) o) ∧ Kq (w2.alloc ob) W' ∧ n' ≤ n + 144000000)) := Lib.hid fun ob => by
    refine Calls.mono (charge_lvk o (.slice xa o.ls.length xc) (.slice ya o.ps.length yc) (A2.out.1.below (BY.out ob)) (F2.out.1.obv.below (BY.out ob)) SZ.out.2.1 SZ.out.2.2 (by have := A2.out.2; omega)) ?_
    rintro e W' ⟨D', n', rfl, h2, h3, h4⟩
    refine ⟨by rw [hE], Lib.hid ⟨D', n', h2, (A2.out.1.below (BY.out ob)).kq h3, ?_⟩⟩
    have := sh_len o SZ.out.2.1
    omega
  have HE := Lib.hid hE
  clear hE
  go_wp2_with fail
  refine (CH.out _).mono ?_
  rintro e w3 ⟨rfl, F3⟩
  clear CH
  obtain ⟨D3, n3, h1, h2, h3⟩ := F3.out
  have A3 : Hid (Lv X w3 t b n3 D3 (mvF true (fun _ => 0) o) ∧ n3 ≤ 1000000000000 ∧ OwO w1.heap.size w3 (.slice xa o.ls.length xc) (.slice ya o.ps.length yc) o ∧ w3.heap[w2.heap.size]? = some (.cells #[.string o.p, .string o.n, .slice xa o.ls.length xc, .int .i64 o.pr, .int .i64 o.dl, .slice ya o.ps.length yc, .int .i64 o.ver] 25 (0, 0))) := Lib.hid ⟨h1, by have := A2.out.2; omega, owo_kq (F2.out.1.below (BY.out _)) h2, h2.bk _ _ _ _ (heap_alloc_new w2 _)⟩
  have NS3 : Hid (n3 ≤ 1000000000000) := Lib.hid A3.out.2.1
  have NB3 : Hid (n3 ≤ 2000000000000) := Lib.hid (by have := A3.out.2.1; omega)
  have SB : Hid (X.heap.size ≤ w1.heap.size) := Lib.hid A1.out.1.bel.size
  clear h1 h2 h3 F3 F2 BY A2 A1
  by_cases hE : E = 0
  case neg =>
    have e0 : mvF true (fun _ => 0) o = fun _ => 0 := mv_no (by rw [← HE.out]; exact hE)
    rw [e0] at A3
    have g4 : (E != 0) = true := by rw [bne_iff_ne]; exact hE
    have RW := Lib.hid (rows_lv A3.out.1 NB3.out)
    go_wp2_with fail
    refine RW.out.mono ?_
    rintro e w4 ⟨v, S, rfl, k1, k2, hb⟩
    have hn := rows_none k2 A3.out.1.rep
    subst hn
    obtain ⟨a2, c2, rfl, _, _⟩ := k1.len
    have BF := Lib.hid (A3.out.1.below hb).bel
    clear k1 k2 hb RW
    go_wp2_with fail
    go_ret
    exact ⟨rfl, BX.out.trans (BF.out.mono BX.out.size)⟩
  subst hE
  have RA := Lib.hid (rows_own w3 t b n3 D3 A3.out.1.ld NB3.out (vl_of A3.out.1.rep A3.out.1.vf))
  go_wp2_with fail
  refine RA.out.mono ?_
  rintro e w4 ⟨va, S, rfl, k1, k2, hb4⟩
  have A4 := Lib.hid (And.intro (A3.out.1.below hb4) (And.intro k1 (And.intro k2 hb4)))
  clear k1 k2 hb4 RA
  have RB := Lib.hid (rows_own w4 t b n3 D3 A4.out.1.ld NB3.out (vl_of A4.out.1.rep A4.out.1.vf))
  go_wp2_with fail
  refine RB.out.mono ?_
  rintro e w5 ⟨vb, S2, rfl, k1, k2, hb5⟩
  obtain rfl : S2 = S := rows_eq k2 A4.out.2.2.1 A4.out.1.rep A4.out.1.rep
  clear RB
  obtain ⟨hol, prs, hpt, hns⟩ := A3.out.2.2.1
  have P0 : Hid (Ap X t b n3 w2.heap.size w1.heap.size w3.heap.size w4.heap.size D3 (mvF true (fun _ => 0) o) #[.string o.p, .string o.n, .slice xa o.ls.length xc, .int .i64 o.pr, .int .i64 o.dl, .slice ya o.ps.length yc, .int .i64 o.ver] (.slice ya o.ps.length yc) prs 0 va vb S2 S2 w5 ∧ prs.length = o.ps.length ∧ ∀ x ∈ prs, x.r.n ≤ 140737488355328) := Lib.hid (by
    have b34 := A4.out.2.2.2
    have s34 := b34.size
    refine ⟨⟨A4.out.1.below hb5, ?_, ?_, ?_, A4.out.2.1.below hb5, k1, fun k e => (A4.out.2.1.lt k e).2, ⟨SB.out, A3.out.1.bel.size, A4.out.1.bel.size⟩, GX.out⟩, hns.1, ?_⟩
    · have q := (b34.block _ (lt_of_some A3.out.2.2.2)).trans A3.out.2.2.2
      exact (hb5.block _ (lt_of_some q)).trans q
    · exact (hpt.below b34).below hb5
    · intro x hx
      obtain ⟨i, hi, rfl⟩ := List.getElem_of_mem hx
      have q := (hns.2 i (by rw [← hns.1]; exact hi)).2.1
      have ex : prs.getD i kPt.z = prs[i] := by rw [List.getD_eq_getElem?_getD, List.getElem?_eq_getElem hi]; rfl
      rw [ex] at q
      exact ((ShA.of q).kq (Kq.of b34)).kq (Kq.of hb5)
    · intro x hx
      obtain ⟨i, hi, rfl⟩ := List.getElem_of_mem hx
      have hio : i < o.ps.length := by rw [← hns.1]; exact hi
      have q := (hns.2 i hio).2.1
      have ex : prs.getD i kPt.z = prs[i] := by rw [List.getD_eq_getElem?_getD, List.getElem?_eq_getElem hi]; rfl
      rw [ex] at q
      obtain ⟨_, _, e⟩ := q.slice
      simp only [Sl.v, Value.slice.injEq] at e
      have z := (SZ.out.1.2.2 _ (getD_in (d := ⟨⟨#[]⟩, [], []⟩) hio)).1
      rw [e.2.1]
      omega)
  have LI := Lib.hid k2
  clear k1 k2 hb5 hol hpt hns A4
  go_wp2_with fail
  obtain ⟨gp, hgp⟩ : ∃ g, g = w2.heap.size := ⟨_, rfl⟩
  obtain ⟨B, hB⟩ : ∃ g, g = w1.heap.size := ⟨_, rfl⟩
  obtain ⟨BA, hBA⟩ : ∃ g, g = w3.heap.size := ⟨_, rfl⟩
  obtain ⟨BB, hBB⟩ : ∃ g, g = w4.heap.size := ⟨_, rfl⟩
  obtain ⟨np, hnp⟩ : ∃ g, g = o.ps.length := ⟨_, rfl⟩
  rw [← hgp] at P0 ⊢
  rw [← hB, ← hBA, ← hBB] at P0
  have NP : Hid (np = o.ps.length) := Lib.hid hnp
  clear hgp hB hBA hBB A3 SB hnp
  go_loopg [8] np (fun g si wr => ∃ (k : Nat), k ≤ np ∧ g = np - k ∧ si = .int .i64 k ∧ Hid (Ap X t b n3 gp B BA BB D3 (mvF true (fun _ => 0) o) #[.string o.p, .string o.n, .slice xa o.ls.length xc, .int .i64 o.pr, .int .i64 o.dl, .slice ya o.ps.length yc, .int .i64 o.ver] (.slice ya o.ps.length yc) prs k va vb S2 S2 wr))
  case atStart => exact ⟨0, Nat.zero_le _, rfl, rfl, Lib.hid P0.out.1⟩
  case round =>
    obtain ⟨k, hk, hg, rfl, R⟩ := hrel
    have GK : Hid (gk = np - k) := Lib.hid hg
    clear hg
    have f5 : wr.cell? ⟨gp, 5, none⟩ = some (.slice ya o.ps.length yc) := by rw [cell_of_row _ _ _ _ _ _ R.out.bx]; rfl
    by_cases hlt : k < np
    · have hkp : k < prs.length := by rw [P0.out.2.1, ← NP.out]; exact hlt
      have hlt' : (k : Int) < (o.ps.length : Int) := by have := NP.out; omega
      have hnb : np ≤ 140737488355328 := by have := SZ.out.1.2.1; have := NP.out; omega
      obtain ⟨q, hq⟩ : ∃ q, ya = some ⟨q, 0, none⟩ := by
        obtain ⟨_, ⟨hv, hn⟩ | ⟨q, cap, cur, hv, _⟩⟩ := R.out.pt
        · rw [pl_len] at hn; omega
        · simp only [Value.slice.injEq] at hv
          exact ⟨q, hv.1⟩
      subst hq
      obtain ⟨⟨xn, ⟨ra, rn, rc⟩, ⟨sa, sn, sc⟩⟩, hx⟩ : ∃ x, x = prs[k] := ⟨_, rfl⟩
      have XM : Hid ((⟨xn, ⟨ra, rn, rc⟩, ⟨sa, sn, sc⟩⟩ : Pr) ∈ prs) := Lib.hid (by rw [hx]; exact List.getElem_mem hkp)
      have FX : Hid (∀ W : World, Ap X t b n3 gp B BA BB D3 (mvF true (fun _ => 0) o) #[.string o.p, .string o.n, .slice xa o.ls.length xc, .int .i64 o.pr, .int .i64 o.dl, .slice (some ⟨q, 0, none⟩) o.ps.length yc, .int .i64 o.ver] (.slice (some ⟨q, 0, none⟩) o.ps.length yc) prs k va vb S2 S2 W → W.cell? ⟨gp, 5, none⟩ = some (.slice (some ⟨q, 0, none⟩) o.ps.length yc) ∧ W.cell? ⟨q, k * 3 + 1, none⟩ = some (.slice ra rn rc) ∧ W.cell? ⟨q, k * 3 + 2, none⟩ = some (.slice sa sn sc) ∧ ∀ j, W.frozen? ⟨q, j, none⟩ = false) := Lib.hid fun W h => by
        obtain ⟨b', off', e', pc⟩ := (h.pt.row okPt).at k (by rw [pl_len]; exact hkp)
        simp only [Option.some.injEq, Addr.mk.injEq, and_true] at e'
        obtain ⟨rfl, rfl⟩ := e'
        rw [pl_at hkp, ← hx] at pc
        obtain ⟨cur, _, _, hgq, _⟩ := h.pt.parts
        refine ⟨by rw [cell_of_row _ _ _ _ _ _ h.bx]; rfl, ?_, ?_, fun j => frozen_row hgq j⟩
        · have := pc 1 _ rfl
          rw [Nat.zero_add] at this
          exact this
        · have := pc 2 _ rfl
          rw [Nat.zero_add] at this
          exact this
      have hrb : rn ≤ 140737488355328 := P0.out.2.2 _ XM.out
      clear hx f5
      obtain ⟨f5, f6, _, _⟩ := FX.out wr R.out
      go_wp2_with fail
      clear f5 f6
      go_loopg [9] rn (fun g si wr => ∃ (j : Nat), j ≤ rn ∧ g = rn - j ∧ si = .int .i64 j ∧ Hid (Ap X t b n3 gp B BA BB D3 (mvF true (fun _ => 0) o) #[.string o.p, .string o.n, .slice xa o.ls.length xc, .int .i64 o.pr, .int .i64 o.dl, .slice (some ⟨q, 0, none⟩) o.ps.length yc, .int .i64 o.ver] (.slice (some ⟨q, 0, none⟩) o.ps.length yc) prs k va vb S2 S2 wr))
      case atStart => exact ⟨0, Nat.zero_le _, rfl, rfl, R⟩
      case round =>
        obtain ⟨j, hj, hg, rfl, R9⟩ := hrel
        have GJ : Hid (gk = rn - j) := Lib.hid hg
        clear hg
        obtain ⟨f5, f6, f7, f8⟩ := FX.out wr R9.out
        by_cases hjt : j < rn
        · have hjt' : (j : Int) < (rn : Int) := by omega
          obtain ⟨ga, cs, hra, hBg, hgg, hnn⟩ : ∃ ga cs, ra = some ⟨ga, 0, none⟩ ∧ B ≤ ga ∧ wr.heap[ga]? = some (.cells cs 37 (0, 0)) ∧ rn * 2 ≤ cs.size := by
            rcases R9.out.sh _ XM.out with e | ⟨g, cs, e, h1, h2, h3⟩
            · simp only at e; omega
            · exact ⟨g, cs, e, h1, h2, h3⟩
          subst hra
          have HG := Lib.hid (And.intro hBg (And.intro hgg hnn))
          obtain ⟨u1, c1⟩ : ∃ u, wr.cell? ⟨ga, j * 2 + 1, none⟩ = some u := ⟨cs[j * 2 + 1]'(by omega), by rw [cell_of_row _ _ _ _ _ _ hgg]; simp [show j * 2 + 1 < cs.size by omega]⟩
          have z1 : wr.frozen? ⟨ga, j * 2 + 1, none⟩ = false := frozen_row hgg _
          have P1 := Lib.hid (R9.out.amt (j := j * 2 + 1) (u := .int .i64 1) hgg hBg)
          have hg1 : (wr.setCell ⟨ga, j * 2 + 1, none⟩ (.int .i64 1)).heap[ga]? = some (.cells (cs.setIfInBounds (j * 2 + 1) (.int .i64 1)) 37 (0, 0)) := heap_setCell_same _ _ _ _ _ _ hgg
          obtain ⟨e5, e6, _, _⟩ := FX.out _ P1.out
          obtain ⟨u0, c0⟩ : ∃ u, (wr.setCell ⟨ga, j * 2 + 1, none⟩ (.int .i64 1)).cell? ⟨ga, j * 2, none⟩ = some u := ⟨(cs.setIfInBounds (j * 2 + 1) (.int .i64 1))[j * 2]'(by rw [Array.size_setIfInBounds]; omega), by rw [cell_of_row _ _ _ _ _ _ hg1]; simp [show j * 2 < cs.size by omega]⟩
          have z0 : (wr.setCell ⟨ga, j * 2 + 1, none⟩ (.int .i64 1)).frozen? ⟨ga, j * 2, none⟩ = false := frozen_row hg1 _
          have P2 := Lib.hid (P1.out.amt (j := j * 2) (u := .string ⟨#[122, 122]⟩) hg1 hBg)
          clear hBg hgg hnn hg1 P1 f7 f8
          go_wp2_with fail
          go_roundg (rn - (j + 1))
          case measure => have := GJ.out; omega
          case rel => exact ⟨j + 1, by omega, rfl, by go_num, P2⟩
        · have hjt' : ¬ (j : Int) < (rn : Int) := by omega
          have z2 := f8 (k * 3 + 2)
          have P3 := Lib.hid (R9.out.cut hkp)
          clear f8
          go_wp2_with fail
          go_roundg (np - (k + 1))
          case measure =>
            have h1 := GK.out
            omega
          case rel => exact ⟨k + 1, by omega, rfl, by go_num, P3⟩
    · have hlt' : ¬ (k : Int) < (o.ps.length : Int) := by have := NP.out; omega
      have RP := Lib.hid R.out
      clear R
      have NE : Hid (0 < S2.length) := Lib.hid (by
        have q0 := (mv_yes (f := fun _ => 0) (c := true) HE.out.symm).1
        have q1 := mv_at SZ.out.2.1 (f := fun _ => 0) (c := true) HE.out.symm ⟨⟨#[47]⟩, 0, 0, tCnt⟩
        rw [root_one SZ.out.2.1 q0] at q1
        obtain ⟨y, hy, _⟩ := (LI.out.m ⟨⟨⟨#[47]⟩, 0, 0, tCnt⟩, 1000⟩).2 ((in_iff RP.out.lv.rep _).2 ⟨by rw [q1]; decide, by decide⟩)
        exact List.length_pos_of_mem hy)
      obtain ⟨ga, ac, hva⟩ : ∃ ga ac, va = .slice (some ⟨ga, 0, none⟩) S2.length ac := by
        obtain ⟨_, ⟨hv, hn⟩ | ⟨g, cap, cur, hv, _⟩⟩ := RP.out.ra
        · have := NE.out; omega
        · exact ⟨g, cap, hv⟩
      subst hva
      obtain ⟨ls2, hls2⟩ : ∃ m, m = S2.length := ⟨_, rfl⟩
      have LS : Hid (ls2 = S2.length) := Lib.hid hls2
      have hsb : ls2 ≤ 2000000000000 := by have := LI.out.n; have := RP.out.lv.ld.m.size_le; have := NB3.out; omega
      rw [← hls2] at RP ⊢
      clear hls2
      go_wp2_with fail
      clear f5
      go_loopg [10] ls2 (fun g si wr => ∃ (k : Nat), k ≤ ls2 ∧ g = ls2 - k ∧ si = .int .i64 k ∧ Hid (∃ i, Ap X t b n3 gp B BA BB D3 (mvF true (fun _ => 0) o) #[.string o.p, .string o.n, .slice xa o.ls.length xc, .int .i64 o.pr, .int .i64 o.dl, .slice ya o.ps.length yc, .int .i64 o.ver] (.slice ya o.ps.length yc) prs i (.slice (some ⟨ga, 0, none⟩) ls2 ac) vb (wl S2 k) S2 wr))
      case atStart => exact ⟨0, Nat.zero_le _, rfl, rfl, Lib.hid ⟨_, RP.out⟩⟩
      case round =>
        obtain ⟨j, hj, hg, rfl, R9⟩ := hrel
        have GJ : Hid (gk = ls2 - j) := Lib.hid hg
        clear hg
        by_cases hjt : j < ls2
        · have hjt' : (j : Int) < (ls2 : Int) := by omega
          obtain ⟨i9, h9⟩ := R9.out
          obtain ⟨cur, hn9, _, hgg, hnc, _, hsz, _⟩ := h9.ra.parts
          have hcs : j * 5 + 4 < cur.size := by
            have e : cur.size = ac * 5 := hsz
            have q : ls2 ≤ ac := hnc
            omega
          obtain ⟨u1, c1⟩ : ∃ u, wr.cell? ⟨ga, j * 5 + 4, none⟩ = some u := ⟨cur[j * 5 + 4], by rw [cell_of_row _ _ _ _ _ _ hgg]; simp [hcs]⟩
          have z1 : wr.frozen? ⟨ga, j * 5 + 4, none⟩ = false := frozen_row hgg _
          have hg1 : (wr.setCell ⟨ga, j * 5 + 4, none⟩ (.int .i64 (-1))).heap[ga]? = some (.cells (cur.setIfInBounds (j * 5 + 4) (.int .i64 (-1))) kUse.t (0, 0)) := heap_setCell_same _ _ _ _ _ _ hgg
          obtain ⟨u0, c0⟩ : ∃ u, (wr.setCell ⟨ga, j * 5 + 4, none⟩ (.int .i64 (-1))).cell? ⟨ga, j * 5, none⟩ = some u := ⟨(cur.setIfInBounds (j * 5 + 4) (.int .i64 (-1)))[j * 5]'(by rw [Array.size_setIfInBounds]; omega), by rw [cell_of_row _ _ _ _ _ _ hg1]; simp [show j * 5 < cur.size by omega]⟩
          have z0 : (wr.setCell ⟨ga, j * 5 + 4, none⟩ (.int .i64 (-1))).frozen? ⟨ga, j * 5, none⟩ = false := frozen_row hg1 _
          have hjs : j < S2.length := by rw [← LS.out]; exact hjt
          have P2 := Lib.hid (h9.row (k := j) (by rw [wl_len]; exact hjs))
          rw [wl_set hjs] at P2
          clear hgg hg1 hcs hsz hnc hn9 h9 R9
          go_wp2_with fail
          go_roundg (ls2 - (j + 1))
          case measure => have := GJ.out; omega
          case rel => exact ⟨j + 1, by omega, rfl, by go_num, Lib.hid ⟨i9, P2.out⟩⟩
        · have hjt' : ¬ (j : Int) < (ls2 : Int) := by omega
          have ej : j = ls2 := by omega
          subst ej
          obtain ⟨i9, h9⟩ := R9.out
          have ew : wl S2 j = S2.map wrU := by rw [LS.out]; exact wl_all S2
          rw [ew] at h9
          have H9 := Lib.hid h9
          have AL : Hid (BA ≤ wr.heap.size) := Lib.hid (by have := h9.ra.lt ga rfl; omega)
          have LL : Hid (((S2.map wrU).length + 1) * kUse.b ≤ 140737488355328) := Lib.hid (by rw [List.length_map, ← LS.out]; show (j + 1) * 56 ≤ _; omega)
          have O9 := Lib.hid h9.ra
          clear h9 R9 ew
          go_wp2_with (at_builtin; refine app_moreK okUse (gg := wr.heap.size) rfl _ _ rfl rfl O9.out AL.out xU ?hgg rfl rfl LL.out ?_)
          case hgg => simp
          intro v' w6 h1 h2 h3
          obtain ⟨ag, cg, rfl⟩ := h2.slice
          have L6 : Hid (Lv X w6 t b n3 D3 (mvF true (fun _ => 0) o) ∧ Row kUse w6 (.slice (some ⟨ga, 0, none⟩) j ac) (S2.map wrU) ∧ Row kUse w6 (.slice ag (S2.map wrU ++ [xU]).length cg) (S2.map wrU ++ [xU]) ∧ Row kUse w6 vb S2) := Lib.hid (by
            have hq := Nat.le_trans H9.out.b0.2.1 (H9.out.ra.lt ga rfl).1
            obtain ⟨cur, _, _, hgg, _⟩ := H9.out.ra.parts
            have st : t ≠ ga := fun e => by
              have q := H9.out.lv.ld.t
              rw [e, hgg] at q
              simp [kUse] at q
            have sb : b ≠ ga := fun e => by
              obtain ⟨es, c, q, _⟩ := H9.out.lv.ld.m
              rw [e, hgg] at q
              simp at q
            exact ⟨H9.out.lv.far h3 hq st sb H9.out.gl, h1.row okUse, h2.row okUse, (H9.out.rb.far h3 (H9.out.ap ga rfl)).row okUse⟩)
          clear h1 h2 h3 O9 AL LL H9 RP
          have RC := Lib.hid (rows_lv L6.out.1 NB3.out)
          go_wp2_with fail
          refine RC.out.mono ?_
          rintro e w7 ⟨vc, S3, rfl, k1, k2, hb7⟩
          obtain rfl : S3 = S2 := rows_eq k2 LI.out L6.out.1.rep L6.out.1.rep
          have L7 : Hid (Lv X w7 t b n3 D3 (mvF true (fun _ => 0) o) ∧ Row kUse w7 (.slice (some ⟨ga, 0, none⟩) j ac) (S3.map wrU) ∧ Row kUse w7 (.slice ag (S3.map wrU ++ [xU]).length cg) (S3.map wrU ++ [xU]) ∧ Row kUse w7 vb S3 ∧ Row kUse w7 vc S3) := Lib.hid ⟨L6.out.1.below hb7, L6.out.2.1.below hb7, L6.out.2.2.1.below hb7, L6.out.2.2.2.below hb7, k1⟩
          clear k1 k2 hb7 RC L6
          obtain ⟨ab, cb, rfl, _, _⟩ := L7.out.2.2.2.1.len
          rw [← LS.out] at L7 ⊢
          go_wp2_with fail
          go_loopg [13] j (fun g si wr => ∃ (k : Nat), k ≤ j ∧ g = j - k ∧ si = .int .i64 k ∧ wr = w7)
          case atStart => exact ⟨0, Nat.zero_le _, rfl, rfl, rfl⟩
          case round =>
            obtain ⟨k, hk4, hg4, rfl, rfl⟩ := hrel
            have G4 : Hid (gk = j - k) := Lib.hid hg4
            clear hg4
            by_cases hkt : k < j
            · have hkt' : (k : Int) < (j : Int) := by omega
              have hks : k < S3.length := by rw [← LS.out]; exact hkt
              obtain ⟨b', off', e', pc4⟩ := L7.out.2.1.at k (by rw [List.length_map]; exact hks)
              simp only [Option.some.injEq, Addr.mk.injEq, and_true] at e'
              obtain ⟨rfl, rfl⟩ := e'
              have em : (S3.map wrU).getD k kUse.z = wrU S3[k] := by rw [List.getD_eq_getElem?_getD, List.getElem?_map, List.getElem?_eq_getElem hks]; rfl
              rw [em] at pc4
              have c4 : wr.cell? ⟨ga, k * 5 + 4, none⟩ = some (.int .i64 (-1)) := by
                have q := pc4 4 _ rfl
                rw [Nat.zero_add] at q
                exact q
              have c0 : wr.cell? ⟨ga, k * 5, none⟩ = some (.string ⟨#[47, 122, 122]⟩) := by
                have q := pc4 0 _ rfl
                rw [Nat.zero_add] at q
                exact q
              clear pc4 em
              go_wp2_with fail
              go_roundg (j - (k + 1))
              case measure => have := G4.out; omega
              case rel => exact ⟨k + 1, by omega, rfl, by go_num, rfl⟩
            · have hkt' : ¬ (k : Int) < (j : Int) := by omega
              have SM := Lib.hid (sameRows_yes _ _ S3 wr L7.out.2.2.2.1 L7.out.2.2.2.2)
              go_wp2_with fail
              refine SM.out.mono ?_
              rintro e w8 ⟨rfl, hb8⟩
              have L8 : Hid (Lv X w8 t b n3 D3 (mvF true (fun _ => 0) o) ∧ Row kUse w8 (.slice ag (S3.map wrU ++ [xU]).length cg) (S3.map wrU ++ [xU])) := Lib.hid ⟨L7.out.1.below hb8, L7.out.2.2.1.below hb8⟩
              clear hb8 SM
              have eln : (S3.map wrU ++ [xU]).length = j + 1 := by rw [List.length_append, List.length_map, ← LS.out]; rfl
              rw [eln] at L8
              rw [← LS.out]
              have w64 : wrap64 (((j + 1 : Nat) : Int) - 1) = (j : Int) := by unfold wrap64; omega
              have w65 : wrap64 ((j : Int) + 1 - 1) = (j : Int) := by unfold wrap64; omega
              obtain ⟨bg, offg, eg, pg⟩ := L8.out.2.at j (by rw [eln]; omega)
              subst eg
              have cx : w8.cell? ⟨bg, offg + j * 5, none⟩ = some (.string ⟨#[120]⟩) := by
                have em : (S3.map wrU ++ [xU]).getD j kUse.z = xU := by
                  rw [List.getD_eq_getElem?_getD, List.getElem?_append_right (by rw [List.length_map, ← LS.out]; exact Nat.le_refl _), List.length_map, ← LS.out, Nat.sub_self]
                  rfl
                rw [em] at pg
                exact pg 0 _ rfl
              obtain ⟨a0, a1, a2, a3, a4, a5, a6⟩ := KC.out w8 L8.out.1.bel
              clear pg
              have hj1 : (j : Int) < ((j + 1 : Nat) : Int) := by omega
              go_wp2_with fail
              refine (OWN.out w8 (BX.out.trans (L8.out.1.bel.mono BX.out.size))).mono ?_
              rintro e w9 ⟨xa9, xc9, ya9, yc9, rfl, F9⟩
              clear a0 a1 a2 a3 a4 a5 a6 cx
              have L9 := Lib.hid (L8.out.1.below F9.out.2)
              have MB := Lib.hid (mv_back SZ.out.2.1 (f := fun _ => 0) (fun _ => Int.le_refl _) HE.out.symm)
              have CR : Hid (Calls Tryz.prog 14 #[.pointer (some ⟨t, 0, none⟩), .agg #[.string o.p, .string o.n, .slice xa9 o.ls.length xc9, .int .i64 o.pr, .int .i64 o.dl, .slice ya9 o.ps.length yc9, .int .i64 o.ver]] w9 fun e W' => e = .returned (.int .i64 0) ∧ Hid (∃ D' n', Lv X W' t b n' D' (fun _ => 0) ∧ n' ≤ 2000000000000)) := Lib.hid (by
                have q := release_lv o (.slice xa9 o.ls.length xc9) (.slice ya9 o.ps.length yc9) L9.out F9.out.1.obv SZ.out.2.1 SZ.out.2.2 (by have := NB3.out; omega)
                rw [MB.out.1, MB.out.2] at q
                refine Calls.mono q ?_
                rintro e W' ⟨D', n', rfl, h2, _, h4⟩
                refine ⟨rfl, Lib.hid ⟨D', n', h2, ?_⟩⟩
                have := sh_len o SZ.out.2.1
                have := NS3.out
                omega)
              clear F9 L8
              go_wp2_with fail
              refine CR.out.mono ?_
              rintro e w10 ⟨rfl, F10⟩
              obtain ⟨D10, n10, h10, h10n⟩ := F10.out
              have L10 := Lib.hid (And.intro h10 h10n)
              clear h10 h10n F10 CR L9
              have RZ := Lib.hid (rows_lv L10.out.1 L10.out.2)
              go_wp2_with fail
              refine RZ.out.mono ?_
              rintro e w11 ⟨vz, SZz, rfl, k1, k2, hb11⟩
              have hn := rows_none k2 L10.out.1.rep
              subst hn
              obtain ⟨az, cz, rfl, _, _⟩ := k1.len
              have BF := Lib.hid (L10.out.1.below hb11).bel
              clear k1 k2 hb11 RZ L10
              go_wp2_with fail
              go_ret
              exact ⟨rfl, BX.out.trans (BF.out.mono BX.out.size)⟩
end Le
theorem ledgerApart_walk (o : Ob) (ls ps : Value) (w : World) (G : Le.Gl w) (b : ObV w ls ps o ∧ OSz o ∧ PSz o.ps ∧ o.ps.length ≤ 2000000) (hp : o.p.size ≤ 140737488355328) :
    Calls Tryz.prog 3 #[o.val ls ps] w fun e w' => e = .returned (.bool true) ∧ Below w.heap.size w w' := Le.apart_walk o ls ps w G b.1 b.2.1 b.2.2.1 hp
end Go.Proofs.YtodfmnbfbndkhaaGreatDoor
