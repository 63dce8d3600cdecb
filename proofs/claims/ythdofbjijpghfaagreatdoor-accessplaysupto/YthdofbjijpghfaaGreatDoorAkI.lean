/-
  The document's Under, gives, Why, May.
-/
import Derived.Test.YthdofbjijpghfaaGreatDoorAkC
import Derived.Test.YthdofbjijpghfaaGreatDoorAjG
import Derived.Test.YthdofbjijpghfaaGreatDoorLRefUnd
namespace Go.Proofs.YthdofbjijpghfaaGreatDoor
open Go.RowKit Go.Sort
namespace Ac
theorem runder_anyA (p q : ByteArray) (w : World) (hs : p.size ≤ 1048576) : Calls Tryz.prog 45 #[.string p, .string q] w fun e w' => e = .returned (.bool (L.underB p q)) ∧ Below w.heap.size w w' := by
  cases h : L.splitO p with
  | none => rw [(L.under_none (b := q) h).1]; exact L.refUnder_none p q w hs h
  | some ts =>
    obtain ⟨rfl, hg⟩ := L.splitO_some h
    have := L.refUnder_any ts q hg w
    rw [L.inB_under hg] at this
    exact this
set_option maxHeartbeats 4000000 in
set_option maxRecDepth 100000 in
theorem refGives_any (x : Bd) (u : ByteArray) (v : Int) (path : ByteArray) (w : World) (hs : path.size ≤ 1048576) :
    Calls Tryz.prog 40 #[x.val, .string u, .int .i64 v, .string path] w fun e w' => e = .returned (.bool (givB x u v path)) ∧ Below w.heap.size w w' := by
  obtain ⟨xp, xn, xs, xv⟩ := x
  obtain ⟨R, hR⟩ : ∃ R, R = givB ⟨xp, xn, xs, xv⟩ u v path := ⟨_, rfl⟩
  rw [← hR]
  unfold givB at hR
  unfold Bd.val
  simp only at hR ⊢
  obtain ⟨X, hX⟩ : ∃ X, X = w.alloc (.cells #[.string xp, .string xn, .string xs, .int .i64 xv] 28) := ⟨_, rfl⟩
  have AX : Hid (Below w.heap.size w X) := Lib.hid (by rw [hX]; exact (Below.refl _ _).alloc (Nat.le_refl _) _)
  have c0 : X.cell? ⟨w.heap.size, 0, none⟩ = some (.string xp) := by rw [hX, World.cell?_alloc_new]; rfl
  have c2 : X.cell? ⟨w.heap.size, 2, none⟩ = some (.string xs) := by rw [hX, World.cell?_alloc_new]; rfl
  have c3 : X.cell? ⟨w.heap.size, 3, none⟩ = some (.int .i64 xv) := by rw [hX, World.cell?_alloc_new]; rfl
  have UN := Lib.hid (runder_anyA path xp X hs)
  have hX' := hX.symm
  clear hX hs
  obtain ⟨uu, hu⟩ : ∃ uu, uu = L.underB path xp := ⟨_, rfl⟩
  rw [← hu] at UN hR
  clear hu
  cases hs : (xs.toList == u.toList) with
  | false =>
    rw [hs, Bool.false_and] at hR
    subst hR
    go_enter Tryz.func40, Tryz.ntmps40
    go_wp2_with fail
    go_ret
    exact ⟨rfl, AX.out⟩
  | true =>
    rw [hs, Bool.true_and] at hR
    by_cases h0 : 0 ≤ v
    · have d0 : decide (0 ≤ v) = true := decide_eq_true h0
      have e0 : decide (v ≥ 0) = true := decide_eq_true h0
      rw [d0, Bool.true_and] at hR
      by_cases h1 : v ≤ xv
      · have d1 : decide (v ≤ xv) = true := decide_eq_true h1
        rw [d1, Bool.true_and] at hR
        subst hR
        go_enter Tryz.func40, Tryz.ntmps40
        go_wp2_with fail
        refine UN.out.mono ?_
        rintro e w1 ⟨rfl, hb⟩
        have B1 := Lib.hid (AX.out.trans (hb.mono AX.out.size))
        clear hb UN
        go_wp2_with fail
        go_ret
        exact ⟨rfl, B1.out⟩
      · have d1 : decide (v ≤ xv) = false := decide_eq_false h1
        rw [d1, Bool.false_and] at hR
        subst hR
        go_enter Tryz.func40, Tryz.ntmps40
        go_wp2_with fail
        go_ret
        exact ⟨rfl, AX.out⟩
    · have d0 : decide (0 ≤ v) = false := decide_eq_false h0
      have e0 : decide (v ≥ 0) = false := decide_eq_false h0
      rw [d0, Bool.false_and] at hR
      subst hR
      go_enter Tryz.func40, Tryz.ntmps40
      go_wp2_with fail
      go_ret
      exact ⟨rfl, AX.out⟩
theorem row_cellsV {w : World} {a : Option Addr} {n c : Nat} {l : List Bv} (H : Row kBv w (.slice a n c) l) (k : Nat) (hk : k < l.length) : ∃ b off, a = some ⟨b, off, none⟩ ∧ ∀ W, Below w.heap.size w W → W.cell? ⟨b, off + k * 4, none⟩ = some (.string (l.getD k Bv.z).1.p) ∧ W.cell? ⟨b, off + k * 4 + 1, none⟩ = some (.string (l.getD k Bv.z).1.n) ∧ W.cell? ⟨b, off + k * 4 + 2, none⟩ = some (.string (l.getD k Bv.z).1.s) ∧ W.cell? ⟨b, off + k * 4 + 3, none⟩ = some (.int .i64 (l.getD k Bv.z).1.v) := by
  obtain ⟨b, off, e, h0, h1, h2, h3⟩ := row_atB H k hk
  have c : ∀ {ad : Addr} {y : Value}, w.cell? ad = some y → ∀ W, Below w.heap.size w W → W.cell? ad = some y := fun h W hW => (hW.cell (block_lt_of_cell h)).trans h
  exact ⟨b, off, e, fun W hW => ⟨c h0 W hW, c h1 W hW, c h2 W hW, c h3 W hW⟩⟩
/-- The first of the longest that give it, of the first i. -/
def Wb (M : List Bv) (u : ByteArray) (v : Int) (path : ByteArray) (i : Nat) (b : Int) : Prop :=
  (b = -1 ∧ ∀ k, k < i → givB (M.getD k Bv.z).1 u v path = false) ∨ (∃ j : Nat, b = j ∧ j < i ∧ givB (M.getD j Bv.z).1 u v path = true ∧ ∀ k, k < i → givB (M.getD k Bv.z).1 u v path = true → (M.getD k Bv.z).1.p.size ≤ (M.getD j Bv.z).1.p.size ∧ (k < j → (M.getD k Bv.z).1.p.size < (M.getD j Bv.z).1.p.size))
theorem Wb.none {M : List Bv} {u : ByteArray} {v : Int} {path : ByteArray} {i : Nat} {b : Int} (h : Wb M u v path i b) (hn : givB (M.getD i Bv.z).1 u v path = false) : Wb M u v path (i + 1) b := by
  rcases h with ⟨h1, h2⟩ | ⟨j, h1, h2, h3, h4⟩
  · exact Or.inl ⟨h1, fun k hk => by
      rcases Nat.lt_or_ge k i with q | q
      · exact h2 k q
      · rw [show k = i by omega]; exact hn⟩
  · exact Or.inr ⟨j, h1, by omega, h3, fun k hk hg => by
      rcases Nat.lt_or_ge k i with q | q
      · exact h4 k q hg
      · rw [show k = i by omega, hn] at hg; exact absurd hg (by decide)⟩
theorem Wb.first {M : List Bv} {u : ByteArray} {v : Int} {path : ByteArray} {i : Nat} (h : Wb M u v path i (-1)) (hg : givB (M.getD i Bv.z).1 u v path = true) : Wb M u v path (i + 1) i := by
  rcases h with ⟨_, h2⟩ | ⟨j, h1, _⟩
  · exact Or.inr ⟨i, rfl, by omega, hg, fun k hk hk2 => by
      rcases Nat.lt_or_ge k i with q | q
      · rw [h2 k q] at hk2; exact absurd hk2 (by decide)
      · rw [show k = i by omega]; exact ⟨Nat.le_refl _, fun z => by omega⟩⟩
  · omega
theorem Wb.more {M : List Bv} {u : ByteArray} {v : Int} {path : ByteArray} {i j : Nat} (h : Wb M u v path i j) (hg : givB (M.getD i Bv.z).1 u v path = true) (hl : (M.getD j Bv.z).1.p.size < (M.getD i Bv.z).1.p.size) : Wb M u v path (i + 1) i := by
  rcases h with ⟨h1, _⟩ | ⟨j', h1, _, _, h4⟩
  · omega
  · have : j = j' := by omega
    subst this
    exact Or.inr ⟨i, rfl, by omega, hg, fun k hk hk2 => by
      rcases Nat.lt_or_ge k i with q | q
      · have := (h4 k q hk2).1; exact ⟨by omega, fun _ => by omega⟩
      · rw [show k = i by omega]; exact ⟨Nat.le_refl _, fun z => by omega⟩⟩
theorem Wb.less {M : List Bv} {u : ByteArray} {v : Int} {path : ByteArray} {i j : Nat} (h : Wb M u v path i j) (hl : ¬ (M.getD j Bv.z).1.p.size < (M.getD i Bv.z).1.p.size) : Wb M u v path (i + 1) j := by
  rcases h with ⟨h1, _⟩ | ⟨j', h1, h2, h3, h4⟩
  · omega
  · have : j = j' := by omega
    subst this
    exact Or.inr ⟨j, rfl, by omega, h3, fun k hk hk2 => by
      rcases Nat.lt_or_ge k i with q | q
      · exact h4 k q hk2
      · rw [show k = i by omega]; exact ⟨by omega, fun z => by omega⟩⟩
/-- What the document's Why tells. -/
def Wq (M : List Bv) (u : ByteArray) (v : Int) (path : ByteArray) (r : Bool × Bd) : Prop :=
  ∃ b : Int, Wb M u v path M.length b ∧ ((b = -1 ∧ r = (false, Bd.z)) ∨ ∃ j : Nat, b = j ∧ r = (true, (M.getD j Bv.z).1))
set_option maxHeartbeats 8000000 in
set_option maxRecDepth 100000 in
theorem refWhy_any (u : ByteArray) (v : Int) (path : ByteArray) (w : World) (r B : Nat) (a : Option Addr) (c : Nat) (M : List Bv) (H : Rt w r B a c M) (hl : M.length ≤ 900000) (hs : path.size ≤ 1048576) (hp : ∀ y ∈ M, y.1.p.size ≤ 1048576) :
    Calls Tryz.prog 17 #[.pointer (some ⟨r, 0, none⟩), .string u, .int .i64 v, .string path] w fun e w' => ∃ q : Bool × Bd, e = .returned (.tuple #[q.2.val, .bool q.1]) ∧ Wq M u v path q ∧ Below w.heap.size w w' := by
  have HH := Lib.hid H
  have HP := Lib.hid hp
  have HS := Lib.hid hs
  obtain ⟨n0, hn0⟩ : ∃ k, k = M.length := ⟨_, rfl⟩
  have HN := Lib.hid hn0
  have hl' : n0 ≤ 900000 := by rw [hn0]; exact hl
  obtain ⟨g8, hg8⟩ : ∃ g, g = w.heap.size := ⟨_, rfl⟩
  obtain ⟨X, hX⟩ : ∃ X, X = w.alloc (.cells #[.string ⟨#[]⟩, .string ⟨#[]⟩, .string ⟨#[]⟩, .int .i64 0] 28) := ⟨_, rfl⟩
  have AX : Hid (Below w.heap.size w X ∧ X.heap[g8]? = some (.cells #[.string ⟨#[]⟩, .string ⟨#[]⟩, .string ⟨#[]⟩, .int .i64 0] 28 (0, 0)) ∧ g8 = w.heap.size) := Lib.hid ⟨by rw [hX]; exact (Below.refl _ _).alloc (Nat.le_refl _) _, by rw [hX, hg8, heap_alloc_new], hg8⟩
  have CX : Hid (∀ W, Below X.heap.size X W → Rt W r B a c M ∧ W.cell? ⟨r, 0, none⟩ = some (.slice a n0 c) ∧ W.heap[g8]? = some (.cells #[.string ⟨#[]⟩, .string ⟨#[]⟩, .string ⟨#[]⟩, .int .i64 0] 28 (0, 0)) ∧ Below w.heap.size w W) := Lib.hid fun W hW => by
    have hb := AX.out.1.trans (hW.mono AX.out.1.size)
    have hr := HH.out.below hb
    refine ⟨hr, ?_, (hW.block g8 (lt_of_some AX.out.2.1)).trans AX.out.2.1, hb⟩
    rw [cell_of_row _ _ _ _ _ _ hr.x, HN.out]; rfl
  have z0 := (CX.out X (Below.refl _ _)).2.1
  have hX' := hX.symm
  have hg' := hg8.symm
  clear H hl hs hp hn0 hX hg8
  go_enter Tryz.func17, Tryz.ntmps17
  go_wp2_with fail
  go_loopg [10, 11] n0 (fun gg sb si wr => ∃ (i : Nat) (b : Int), i ≤ n0 ∧ gg = n0 - i ∧ si = .int .i64 i ∧ sb = .int .i64 b ∧ Hid (Wb M u v path i b ∧ Below X.heap.size X wr))
  case atStart => exact ⟨0, -1, by omega, rfl, rfl, rfl, Lib.hid ⟨Or.inl ⟨rfl, fun k h => by omega⟩, Below.refl _ _⟩⟩
  case round =>
    clear z0
    obtain ⟨i, b, hi, hg, rfl, rfl, Q⟩ := hrel
    have G := Lib.hid hg
    clear hg
    have z0 := (CX.out wr Q.out.2).2.1
    by_cases h0 : i < n0
    · as_aux_lemma =>
      have h0' : (i : Int) < (n0 : Int) := by omega
      have di : decide ((i : Int) < 0) = false := decide_eq_false (by omega)
      have hkl : i < M.length := by rw [← HN.out]; exact h0
      obtain ⟨bb, off, ea, q4⟩ := row_cellsV ((CX.out wr Q.out.2).1.o.row okBv) i hkl
      have CL := Lib.hid q4
      have PJ : Hid (∀ W, Below wr.heap.size wr W → ∀ k, k < M.length → W.cell? ⟨bb, off + k * 4, none⟩ = some (.string (M.getD k Bv.z).1.p)) := Lib.hid (fun W hW k hk => by
        obtain ⟨b', o', e', s0⟩ := row_cellsV ((CX.out wr Q.out.2).1.o.row okBv) k hk
        rw [ea] at e'
        simp only [Option.some.injEq, Addr.mk.injEq, and_true] at e'
        rw [e'.1, e'.2]
        exact ((s0 W hW).1))
      subst ea
      clear q4
      obtain ⟨p0, p1, p2, p3⟩ := CL.out wr (Below.refl _ _)
      obtain ⟨⟨xp, xn, xs, xv⟩, hx⟩ : ∃ x, x = (M.getD i Bv.z).1 := ⟨_, rfl⟩
      have HX := Lib.hid hx
      rw [← hx] at p0 p1 p2 p3
      simp only at p0 p1 p2 p3
      obtain ⟨gv, hgv⟩ : ∃ g, g = givB ⟨xp, xn, xs, xv⟩ u v path := ⟨_, rfl⟩
      have GV := Lib.hid hgv
      have GA := Lib.hid (refGives_any ⟨xp, xn, xs, xv⟩ u v path wr HS.out)
      rw [← hgv] at GA
      unfold Bd.val at GA
      simp only at GA
      clear hx hgv
      go_wp2_with fail
      refine GA.out.mono ?_
      rintro e w3 ⟨rfl, hb3⟩
      have B3 := Lib.hid (Q.out.2.trans (hb3.mono Q.out.2.size))
      have z3 := (CX.out w3 B3.out).2.1
      have P3 := Lib.hid (PJ.out w3 hb3)
      clear z0 p0 p1 p2 p3 GA hb3
      cases gv with
      | false =>
        have WN : Hid (Wb M u v path (i + 1) b) := Lib.hid (Q.out.1.none (by rw [← HX.out, ← GV.out]))
        clear z3
        go_wp2_with fail
        go_roundg (n0 - (i + 1))
        case measure => have := G.out; omega
        case rel => exact ⟨i + 1, b, by omega, rfl, by go_num, rfl, Lib.hid ⟨WN.out, B3.out⟩⟩
      | true =>
        have GT : Hid (givB (M.getD i Bv.z).1 u v path = true) := Lib.hid (by rw [← HX.out, ← GV.out])
        by_cases hb0 : b < 0
        · have eb : b = -1 := by
            rcases Q.out.1 with ⟨q, _⟩ | ⟨j, q, _⟩
            · exact q
            · omega
          subst eb
          have WN : Hid (Wb M u v path (i + 1) i) := Lib.hid (Q.out.1.first GT.out)
          have d1 : decide ((-1 : Int) < 0) = true := by decide
          clear z3 hb0
          go_upto_region 6 with fail
          go_quiet (fail)
          go_wp2_with fail
          go_roundg (n0 - (i + 1))
          case measure => have := G.out; omega
          case rel => exact ⟨i + 1, (i : Int), by omega, rfl, by go_num, rfl, Lib.hid ⟨WN.out, B3.out.trans ((below_drawn w3 _).mono B3.out.size)⟩⟩
        · obtain ⟨j, hj, hji⟩ : ∃ j : Nat, b = (j : Int) ∧ j < i := by
            rcases Q.out.1 with ⟨q, _⟩ | ⟨j, q, q2, _⟩
            · omega
            · exact ⟨j, q, q2⟩
          subst hj
          have dj : decide ((j : Int) < 0) = false := decide_eq_false (by omega)
          have hjn : (j : Int) < (n0 : Int) := by omega
          obtain ⟨yp, hyp⟩ : ∃ p, p = (M.getD j Bv.z).1.p := ⟨_, rfl⟩
          have t0 : w3.cell? ⟨bb, off + i * 4, none⟩ = some (.string xp) := by rw [P3.out i hkl, ← HX.out]
          have t1 : w3.cell? ⟨bb, off + j * 4, none⟩ = some (.string yp) := by rw [P3.out j (by omega), hyp]
          have SX : Hid (xp.size ≤ 1048576 ∧ yp.size ≤ 1048576) := Lib.hid ⟨by have := HP.out _ (getD_inB (d := Bv.z) hkl); rw [← HX.out] at this; exact this, by rw [hyp]; exact HP.out _ (getD_inB (by omega))⟩
          have YP := Lib.hid hyp
          clear hyp hb0
          by_cases hlt : yp.size < xp.size
          · have WN : Hid (Wb M u v path (i + 1) i) := Lib.hid (Q.out.1.more GT.out (by rw [← HX.out, ← YP.out]; exact hlt))
            have e1 : decide ((xp.size : Int) > (yp.size : Int)) = true := decide_eq_true (by omega)
            have e2 : decide ((yp.size : Int) < (xp.size : Int)) = true := decide_eq_true (by omega)
            have e3 : decide (yp.size < xp.size) = true := decide_eq_true hlt
            go_upto_region 6 with fail
            go_quiet (fail)
            go_wp2_with fail
            go_roundg (n0 - (i + 1))
            case measure => have := G.out; omega
            case rel => exact ⟨i + 1, (i : Int), by omega, rfl, by go_num, rfl, Lib.hid ⟨WN.out, B3.out.trans ((below_drawn w3 _).mono B3.out.size)⟩⟩
          · have WN : Hid (Wb M u v path (i + 1) j) := Lib.hid (Q.out.1.less (by rw [← HX.out, ← YP.out]; exact hlt))
            have e1 : decide ((xp.size : Int) > (yp.size : Int)) = false := decide_eq_false (by omega)
            have e2 : decide ((yp.size : Int) < (xp.size : Int)) = false := decide_eq_false (by omega)
            have e3 : decide (yp.size < xp.size) = false := decide_eq_false hlt
            go_upto_region 6 with fail
            go_quiet (fail)
            go_wp2_with fail
            go_roundg (n0 - (i + 1))
            case measure => have := G.out; omega
            case rel => exact ⟨i + 1, (j : Int), by omega, rfl, by go_num, rfl, Lib.hid ⟨WN.out, B3.out.trans ((below_drawn w3 _).mono B3.out.size)⟩⟩
    · have WE : Hid (Wb M u v path M.length b) := Lib.hid (by rw [← HN.out, show n0 = i by omega]; exact Q.out.1)
      have h8 := (CX.out wr Q.out.2).2.2.1
      have H8 := Lib.hid h8
      have BW := Lib.hid (CX.out wr Q.out.2).2.2.2
      have f0 : wr.frozen? ⟨g8, 0, none⟩ = false := frozen_of_row _ _ _ _ _ h8
      have f1 : wr.frozen? ⟨g8, 1, none⟩ = false := frozen_of_row _ _ _ _ _ h8
      have f2 : wr.frozen? ⟨g8, 2, none⟩ = false := frozen_of_row _ _ _ _ _ h8
      have f3 : wr.frozen? ⟨g8, 3, none⟩ = false := frozen_of_row _ _ _ _ _ h8
      have s0 : wr.cell? ⟨g8, 0, none⟩ = some (.string ⟨#[]⟩) := by rw [cell_of_row _ _ _ _ _ _ h8]; rfl
      have s1 : wr.cell? ⟨g8, 1, none⟩ = some (.string ⟨#[]⟩) := by rw [cell_of_row _ _ _ _ _ _ h8]; rfl
      have s2 : wr.cell? ⟨g8, 2, none⟩ = some (.string ⟨#[]⟩) := by rw [cell_of_row _ _ _ _ _ _ h8]; rfl
      have s3 : wr.cell? ⟨g8, 3, none⟩ = some (.int .i64 0) := by rw [cell_of_row _ _ _ _ _ _ h8]; rfl
      by_cases hb0 : b < 0
      · have eb : b = -1 := by
          rcases Q.out.1 with ⟨q, _⟩ | ⟨j, q, _⟩
          · exact q
          · omega
        subst eb
        have d1 : decide ((-1 : Int) < 0) = true := by decide
        clear hb0 h8
        go_wp2_with fail
        (try simp only [Exit.inBlock, Exit.then])
        refine bodyPost_ret (results_cell1 rfl _ _ ⟨g8, 0, none⟩ (.agg #[.string ⟨#[]⟩, .string ⟨#[]⟩, .string ⟨#[]⟩, .int .i64 0]) rfl (load_bd (set4 H8.out) rfl)) rfl ?_
        refine ⟨(false, Bd.z), rfl, ⟨-1, WE.out, Or.inl ⟨rfl, rfl⟩⟩, ?_⟩
        have g := AX.out.2.2
        exact (((BW.out.setCell (p := ⟨g8, 0, none⟩) (by rw [g]; exact Nat.le_refl _) _).setCell (p := ⟨g8, 1, none⟩) (by rw [g]; exact Nat.le_refl _) _).setCell (p := ⟨g8, 2, none⟩) (by rw [g]; exact Nat.le_refl _) _).setCell (p := ⟨g8, 3, none⟩) (by rw [g]; exact Nat.le_refl _) _
      · obtain ⟨j, hj, hji⟩ : ∃ j : Nat, b = (j : Int) ∧ j < n0 := by
          rcases Q.out.1 with ⟨q, _⟩ | ⟨j, q, q2, _⟩
          · omega
          · exact ⟨j, q, by omega⟩
        subst hj
        have dj : decide ((j : Int) < 0) = false := decide_eq_false (by omega)
        have hjn : (j : Int) < (n0 : Int) := by omega
        obtain ⟨bb, off, ea, q4⟩ := row_cellsV ((CX.out wr Q.out.2).1.o.row okBv) j (by rw [← HN.out]; exact hji)
        subst ea
        obtain ⟨p0, p1, p2, p3⟩ := q4 wr (Below.refl _ _)
        obtain ⟨⟨xp, xn, xs, xv⟩, hx⟩ : ∃ x, x = (M.getD j Bv.z).1 := ⟨_, rfl⟩
        have HX := Lib.hid hx
        rw [← hx] at p0 p1 p2 p3
        simp only at p0 p1 p2 p3
        clear hx hb0 h8 q4
        go_wp2_with fail
        (try simp only [Exit.inBlock, Exit.then])
        refine bodyPost_ret (results_cell1 rfl _ _ ⟨g8, 0, none⟩ (.agg #[.string xp, .string xn, .string xs, .int .i64 xv]) rfl (load_bd (set4 H8.out) rfl)) rfl ?_
        refine ⟨(true, ⟨xp, xn, xs, xv⟩), rfl, ⟨j, WE.out, Or.inr ⟨j, rfl, by rw [HX.out]⟩⟩, ?_⟩
        have g := AX.out.2.2
        exact (((BW.out.setCell (p := ⟨g8, 0, none⟩) (by rw [g]; exact Nat.le_refl _) _).setCell (p := ⟨g8, 1, none⟩) (by rw [g]; exact Nat.le_refl _) _).setCell (p := ⟨g8, 2, none⟩) (by rw [g]; exact Nat.le_refl _) _).setCell (p := ⟨g8, 3, none⟩) (by rw [g]; exact Nat.le_refl _) _
end Ac
end Go.Proofs.YthdofbjijpghfaaGreatDoor
