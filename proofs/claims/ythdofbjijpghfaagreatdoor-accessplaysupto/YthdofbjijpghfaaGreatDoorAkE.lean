/-
  The document's Set, of a binding whose place is free.
-/
import Derived.Test.YthdofbjijpghfaaGreatDoorAkD
namespace Go.Proofs.YthdofbjijpghfaaGreatDoor
open Go.RowKit Go.Sort
namespace Ac
theorem ahd_p {x y : Bv} (h : y.1.p = x.1.p) : ahd x y = Op.bytesLess x.1.n.toList y.1.n.toList := by
  unfold ahd ltOf cV cB
  rw [if_pos h.symm, cmS_bool]
theorem ahd_n {x y : Bv} (h : ¬ y.1.p = x.1.p) : ahd x y = aheadB x.1.p y.1.p := by
  unfold ahd ltOf cV cB aheadB
  rw [if_neg (fun e => h e.symm)]
theorem aheadB_self (p : ByteArray) : aheadB p p = false := by
  unfold aheadB cmP
  have : ∀ l : List ByteArray, cmL l l = 0 := by
    intro l
    induction l with
    | nil => rfl
    | cons z r ih => rw [cmL, if_pos ((cmS_zero z z).2 rfl), ih]
  rw [this]; rfl
theorem Rt.mono {w : World} {r B B' : Nat} {a : Option Addr} {c : Nat} {M : List Bv} (h : Rt w r B a c M) (hB : B' ≤ B) (hr : r < B') : Rt w r B' a c M := ⟨h.x, h.o.mono hB, hr⟩
theorem rt_set {w w2 W : World} {r : Nat} {a a' : Option Addr} {c c' n : Nat} {l : List Bv} (hb : Below w.heap.size w W) (ho : OwnR kBv w2.heap.size W (.slice a' l.length c') l) (hr : r < w.heap.size ∧ w.heap.size ≤ w2.heap.size) (hx : W.heap[r]? = some (.cells #[.slice a n c] 40 (0, 0))) :
    Rt (W.setCell ⟨r, 0, none⟩ (.slice a' l.length c')) r w.heap.size a' c' l ∧ Kept (fun y => y = r) w (W.setCell ⟨r, 0, none⟩ (.slice a' l.length c')) := by
  have k : Kept (fun y => y = r) W (W.setCell ⟨r, 0, none⟩ (.slice a' l.length c')) := kept_set (F := fun y => y = r) W ⟨r, 0, none⟩ _ rfl
  refine ⟨⟨?_, (ho.kept k (fun q e f => by have := (ho.lt q e).1; omega)).mono hr.2, hr.1⟩, (Below.kept hb _).trans k (fun _ _ e => e)⟩
  rw [heap_setCell_same _ _ _ _ _ _ hx]; rfl
/-- What Set answers. -/
def StQ (w : World) (r _B : Nat) (M : List Bv) (x : Bd) (e : Ending) (w' : World) : Prop :=
  ∃ k : Nat, e = .returned (.int .i64 (k : Nat)) ∧ ((bdS x = false ∧ k = 130 ∧ Below w.heap.size w w') ∨ (bdS x = true ∧ 16 ≤ cntP x.p M ∧ k = 194 ∧ Below w.heap.size w w') ∨ (bdS x = true ∧ cntP x.p M < 16 ∧ k = 0 ∧ ∃ (hv : (L.splitO x.p).isSome = true) (a' : Option Addr) (c' : Nat), Rt w' r w.heap.size a' c' (insB (Bv.mk x hv) M) ∧ Kept (fun y => y = r) w w'))
set_option maxHeartbeats 8000000 in
set_option maxRecDepth 100000 in
theorem refSet_new (x : Bd) (w : World) (r B : Nat) (a : Option Addr) (c : Nat) (M : List Bv) (H : Rt w r B a c M) (hB : B ≤ w.heap.size) (hl : M.length ≤ 900000) (hp : x.p.size ≤ 1048576) (hno : bdS x = true → ¬ hasV M x.p x.n) (hs : ∀ y ∈ M, y.1.p.size ≤ 1048576) :
    Calls Tryz.prog 11 #[.pointer (some ⟨r, 0, none⟩), x.val] w (StQ w r B M x) := by
  have HH := Lib.hid H
  have HB := Lib.hid hB
  have HS := Lib.hid hs
  have HP := Lib.hid hp
  obtain ⟨n0, hn0⟩ : ∃ k, k = M.length := ⟨_, rfl⟩
  have HN := Lib.hid hn0
  have hl' : n0 ≤ 900000 := by rw [hn0]; exact hl
  obtain ⟨xp, xn, xs, xv⟩ := x
  obtain ⟨g3, hg3⟩ : ∃ g, g = w.heap.size := ⟨_, rfl⟩
  obtain ⟨X, hX⟩ : ∃ X, X = w.alloc (.cells #[.string xp, .string xn, .string xs, .int .i64 xv] 28) := ⟨_, rfl⟩
  have AX : Hid (Below w.heap.size w X ∧ X.heap[g3]? = some (.cells #[.string xp, .string xn, .string xs, .int .i64 xv] 28 (0, 0))) := Lib.hid ⟨by rw [hX]; exact (Below.refl _ _).alloc (Nat.le_refl _) _, by rw [hX, hg3, heap_alloc_new]⟩
  have CX : Hid (∀ W, Below X.heap.size X W → W.cell? ⟨g3, 0, none⟩ = some (.string xp) ∧ W.cell? ⟨g3, 1, none⟩ = some (.string xn) ∧ W.cell? ⟨g3, 2, none⟩ = some (.string xs) ∧ W.cell? ⟨g3, 3, none⟩ = some (.int .i64 xv) ∧ Rt W r B a c M ∧ W.cell? ⟨r, 0, none⟩ = some (.slice a n0 c) ∧ Below w.heap.size w W) := Lib.hid fun W hbb => by
    have hB' : W.heap[g3]? = some (.cells #[.string xp, .string xn, .string xs, .int .i64 xv] 28 (0, 0)) := (hbb.block g3 (lt_of_some AX.out.2)).trans AX.out.2
    have hb1 := AX.out.1.trans (hbb.mono AX.out.1.size)
    have hr := HH.out.below hb1
    refine ⟨cell_of_row _ _ 0 _ _ _ hB', cell_of_row _ _ 1 _ _ _ hB', cell_of_row _ _ 2 _ _ _ hB', cell_of_row _ _ 3 _ _ _ hB', hr, ?_, hb1⟩
    rw [cell_of_row _ _ _ _ _ _ hr.x, HN.out]; rfl
  obtain ⟨x0, x1, x2, x3, -, -, -⟩ := CX.out X (Below.refl _ _)
  have VB := Lib.hid (refValidB_any ⟨xp, xn, xs, xv⟩ X hp)
  have NO := Lib.hid hno
  have hX' := hX.symm
  have hg3' := hg3.symm
  unfold Bd.val at VB ⊢
  simp only at VB NO ⊢
  clear hX hg3 H hB hl hp hno hs hn0
  cases hS : bdS ⟨xp, xn, xs, xv⟩ with
  | false =>
    rw [hS] at VB
    have SF := Lib.hid hS
    clear hS
    unfold jdR at VB
    simp only [Bool.false_eq_true, if_false] at VB
    go_enter Tryz.func11, Tryz.ntmps11
    go_wp2_with fail
    refine VB.out.mono ?_
    rintro e w1 ⟨rfl, hb⟩
    have B1 := Lib.hid (AX.out.1.trans (hb.mono AX.out.1.size))
    clear hb VB x0 x1 x2 x3
    go_wp2_with fail
    go_ret
    exact ⟨130, rfl, Or.inl ⟨SF.out, rfl, B1.out⟩⟩
  | true =>
  rw [hS] at VB
  have ST := Lib.hid hS
  have PV : Hid ((L.splitO xp).isSome = true) := Lib.hid (bd_path (x := ⟨xp, xn, xs, xv⟩) ((bd_code _).2 hS))
  have NV := Lib.hid (NO.out hS)
  clear hS
  unfold jdR at VB
  simp only [if_true] at VB
  go_enter Tryz.func11, Tryz.ntmps11
  go_wp2_with fail
  refine VB.out.mono ?_
  rintro e w1 ⟨rfl, hb1⟩
  have B1 := Lib.hid hb1
  obtain ⟨y0, y1, -, -, -, -, -⟩ := CX.out w1 hb1
  have AT := Lib.hid (refAt_any xp xn w1 r B a c M (CX.out w1 hb1).2.2.2.2.1 (by rw [← HN.out]; omega))
  clear hb1 VB x0 x1 x2 x3
  go_wp2_with fail
  refine AT.out.mono ?_
  rintro e w2 ⟨k, rfl, hk, hb2⟩
  have hk1 : k = -1 := by
    rcases hk with ⟨q, _⟩ | ⟨j, _, hj, e1, e2⟩
    · exact q
    · exact absurd ⟨_, getD_inB (d := Bv.z) hj, e1, e2⟩ NV.out
  subst hk1
  have B2 := Lib.hid (B1.out.trans (hb2.mono B1.out.size))
  obtain ⟨-, -, -, -, -, z5, -⟩ := CX.out w2 B2.out
  clear hk hb2 AT y0 y1
  go_wp2_with fail
  go_loopg [7, 8, 9, 10] n0 (fun gg s7 s8 s9 si wr => ∃ (i n : Nat) (d : Bool) (l : List Bv) (al : Option Addr) (cl : Nat), i ≤ n0 ∧ gg = n0 - i ∧ si = .int .i64 i ∧ s7 = .int .i64 n ∧ s8 = .slice al l.length cl ∧ s9 = .bool d ∧ Hid (n = cntP xp (M.take i) ∧ way (Bv.mk ⟨xp, xn, xs, xv⟩ PV.out) (M.take i) d l ∧ OwnR kBv w2.heap.size wr (.slice al l.length cl) l ∧ Below w2.heap.size w2 wr))
  case atStart => exact ⟨0, 0, false, [], none, 0, by omega, rfl, rfl, rfl, rfl, rfl, Lib.hid ⟨by simp [cntP], Or.inl ⟨rfl, by simp, fun y hy => by simp at hy⟩, OwnR.nil _ _ _, Below.refl _ _⟩⟩
  case round =>
    clear z5
    obtain ⟨i, n, d, l, al, cl, hi, hg, rfl, rfl, rfl, rfl, Q⟩ := hrel
    have G := Lib.hid hg
    clear hg
    have BQ := Lib.hid (B2.out.trans (Q.out.2.2.2.mono B2.out.size))
    obtain ⟨-, -, -, -, -, z5, -⟩ := CX.out wr BQ.out
    by_cases h0 : i < n0
    · as_aux_lemma =>
      have h0' : (i : Int) < (n0 : Int) := by omega
      have hkl : i < M.length := by rw [← HN.out]; exact h0
      obtain ⟨bb, off, ea, p0, p1, p2, p3⟩ := row_atB ((CX.out wr BQ.out).2.2.2.2.1.o.row okBv) i hkl
      subst ea
      obtain ⟨y, hy⟩ : ∃ y, y = M.getD i Bv.z := ⟨_, rfl⟩
      rw [← hy] at p0 p1 p2 p3
      have YS : Hid (y.1.p.size ≤ 1048576) := Lib.hid (by rw [hy]; exact HS.out _ (getD_inB hkl))
      have TK : Hid (M.take (i + 1) = M.take i ++ [y]) := Lib.hid (by rw [hy]; exact take_oneB M i Bv.z hkl)
      obtain ⟨xb, hxb⟩ : ∃ xb, xb = Bv.mk ⟨xp, xn, xs, xv⟩ PV.out := ⟨_, rfl⟩
      have XBE := Lib.hid hxb
      rw [← hxb] at Q
      obtain ⟨yq, hyq⟩ : ∃ q : Bd, y.1 = q := ⟨_, rfl⟩
      have YQ := Lib.hid hyq
      rw [hyq] at p0 p1 p2 p3 YS
      obtain ⟨yp, yn, ys, yv⟩ := yq
      simp only at p0 p1 p2 p3 YS
      obtain ⟨ah, hah⟩ : ∃ b, b = ahd xb y := ⟨_, rfl⟩
      have XB : Hid (xb.1 = ⟨xp, xn, xs, xv⟩) := Lib.hid (by rw [hxb]; rfl)
      have AY : Hid ((yp = xp → ah = Op.bytesLess xn.toList yn.toList) ∧ (¬ yp = xp → ah = aheadB xp yp)) := Lib.hid (by
        refine ⟨fun e => ?_, fun e => ?_⟩
        · rw [hah, ahd_p (by rw [hyq, XB.out]; exact e), hyq, XB.out]
        · rw [hah, ahd_n (by rw [hyq, XB.out]; exact e), hyq, XB.out])
      have WG : Hid (way xb (M.take (i + 1)) (d || ah) (l ++ (if !d && ah then [xb] else []) ++ [y])) := Lib.hid (by rw [TK.out, hah]; exact Q.out.2.1.go)
      have LL : Hid (l.length ≤ 900001) := Lib.hid (by have := Q.out.2.1.len; rw [List.length_take] at this; omega)
      have XE : Hid (Bv.c xb = [.string xp, .string xn, .string xs, .int .i64 xv]) := Lib.hid (by unfold Bv.c; rw [XB.out])
      have YE : Hid (Bv.c y = [.string yp, .string yn, .string ys, .int .i64 yv]) := Lib.hid (by unfold Bv.c; rw [hyq])
      have NC : Hid (cntP xp (M.take (i + 1)) = n + (if yp = xp then 1 else 0)) := Lib.hid (by rw [TK.out, cntP_snoc, hyq, Q.out.1])
      have nb : n ≤ 900000 := by have := cntP_le xp (M.take i); rw [← Q.out.1, List.length_take] at this; omega
      obtain ⟨Y, hY⟩ : ∃ Y, Y = wr.alloc (.cells #[.string yp, .string yn, .string ys, .int .i64 yv] 28) := ⟨_, rfl⟩
      obtain ⟨g11, hg11⟩ : ∃ g, g = wr.heap.size := ⟨_, rfl⟩
      have YY : Hid (Below wr.heap.size wr Y ∧ Y.heap[g11]? = some (.cells #[.string yp, .string yn, .string ys, .int .i64 yv] 28 (0, 0)) ∧ g11 = wr.heap.size) := Lib.hid ⟨by rw [hY]; exact (Below.refl _ _).alloc (Nat.le_refl _) _, by rw [hY, hg11, heap_alloc_new], hg11⟩
      have FC : Hid (∀ W, Below Y.heap.size Y W → (W.cell? ⟨g3, 0, none⟩ = some (.string xp) ∧ W.cell? ⟨g3, 1, none⟩ = some (.string xn) ∧ W.cell? ⟨g3, 2, none⟩ = some (.string xs) ∧ W.cell? ⟨g3, 3, none⟩ = some (.int .i64 xv)) ∧ (W.cell? ⟨g11, 0, none⟩ = some (.string yp) ∧ W.cell? ⟨g11, 1, none⟩ = some (.string yn) ∧ W.cell? ⟨g11, 2, none⟩ = some (.string ys) ∧ W.cell? ⟨g11, 3, none⟩ = some (.int .i64 yv)) ∧ OwnR kBv w2.heap.size W (.slice al l.length cl) l ∧ Below w2.heap.size w2 W ∧ W.heap[g3]? = some (.cells #[.string xp, .string xn, .string xs, .int .i64 xv] 28 (0, 0)) ∧ W.heap[g11]? = some (.cells #[.string yp, .string yn, .string ys, .int .i64 yv] 28 (0, 0))) := Lib.hid fun W hW => by
        have b1 : Below wr.heap.size wr W := YY.out.1.trans (hW.mono YY.out.1.size)
        have b2 := BQ.out.trans (b1.mono BQ.out.size)
        obtain ⟨u0, u1, u2, u3, -, -, -⟩ := CX.out W b2
        have h11 := (hW.block g11 (lt_of_some YY.out.2.1)).trans YY.out.2.1
        exact ⟨⟨u0, u1, u2, u3⟩, ⟨cell_of_row _ _ 0 _ _ _ h11, cell_of_row _ _ 1 _ _ _ h11, cell_of_row _ _ 2 _ _ _ h11, cell_of_row _ _ 3 _ _ _ h11⟩, Q.out.2.2.1.below b1, Q.out.2.2.2.trans (b1.mono Q.out.2.2.2.size), (b2.block g3 (lt_of_some AX.out.2)).trans AX.out.2, h11⟩
      have hY' := hY.symm
      have hg' := hg11.symm
      obtain ⟨⟨u0, u1, u2, u3⟩, ⟨t0, t1, t2, t3⟩, -, -, -, -⟩ := FC.out Y (Below.refl _ _)
      clear hy hxb hyq hah hY hg11
      by_cases e1 : yp = xp
      · as_aux_lemma =>
        have g1 : (yp.toList == xp.toList) = true := by rw [e1]; exact beq_self_eq_true _
        have g2 : (xp.toList == yp.toList) = true := by rw [e1]; exact beq_self_eq_true _
        have NW : Hid (cntP xp (M.take (i + 1)) = n + 1) := Lib.hid (by rw [NC.out, if_pos e1])
        have AE : Hid (ah = Op.bytesLess xn.toList yn.toList) := Lib.hid (AY.out.1 e1)
        have A0 : Hid (aheadB xp yp = false) := Lib.hid (by rw [e1]; exact aheadB_self _)
        clear e1 AY NC
        go_upto_region 17 with fail
        go_cut [76] (fun s76 wx => s76 = .bool (!d && ah) ∧ Hid (Below Y.heap.size Y wx))
        case first =>
          cases d with
          | true =>
            go_wp2_with fail
            go_meet
            case rel => exact ⟨rfl, Lib.hid (Below.refl _ _)⟩
          | false =>
            have RA := Lib.hid (refAhead_any xp yp Y HP.out YS.out)
            rw [A0.out] at RA
            go_wp2_with fail
            refine RA.out.mono ?_
            rintro e w5 ⟨rfl, hb5⟩
            have B5 := Lib.hid hb5
            obtain ⟨⟨v0, v1, -, -⟩, ⟨s0, s1, -, -⟩, -⟩ := FC.out w5 hb5
            clear hb5 RA u0 u1 u2 u3 t0 t1 t2 t3
            go_wp2_with fail
            go_meet
            case rel => exact ⟨by rw [AE.out]; rfl, B5⟩
        case rest =>
          obtain ⟨rfl, BC⟩ := hcut
          obtain ⟨⟨u0, u1, u2, u3⟩, ⟨t0, t1, t2, t3⟩, hO, hBw, h3, h11⟩ := FC.out wc BC.out
          have O := Lib.hid hO
          have BW := Lib.hid hBw
          have K3 := Lib.hid (And.intro h3 h11)
          have BZ : Hid (w2.heap.size ≤ wc.heap.size) := Lib.hid hBw.size
          have OB : Hid (∀ k, (Value.slice al l.length cl).ownBlock = some k → k ≠ g3 ∧ k ≠ g11) := Lib.hid (fun k e => by
            have q1 := (Q.out.2.2.1.lt k e)
            have q2 := lt_of_some AX.out.2
            have q3 := B2.out.size
            have q4 := YY.out.2.2
            omega)
          clear hO hBw h3 h11
          cases hda : (!d && ah) with
          | true =>
            have ed : d = false ∧ ah = true := by cases d <;> cases ah <;> simp at hda ⊢
            obtain ⟨rfl, rfl⟩ := ed
            have WT : Hid (way xb (M.take (i + 1)) true (l ++ [xb, y])) := Lib.hid (by have q := WG.out; simpa using q)
            have LN : Hid (l.length < 100000000) := Lib.hid (by have := LL.out; omega)
            clear WG hda
            go_wp2_with (at_builtin; refine app_row okBv (gg := wc.heap.size) rfl _ _ rfl rfl O.out BZ.out xb ?hgg ?hcs rfl LN.out ?_)
            case hgg => simp
            case hcs => rw [show kBv.c xb = [.string xp, .string xn, .string xs, .int .i64 xv] from XE.out]
            intro v4 w4 h4 g4
            obtain ⟨a4, c4, rfl⟩ := h4.slice
            have O4 := Lib.hid h4
            have B4 : Hid (Below w2.heap.size w2 w4) := Lib.hid (BW.out.trans ((Below.refl _ _).grown g4 BW.out.size (fun k e => (O.out.lt k e).1)))
            have BZ4 : Hid (w2.heap.size ≤ w4.heap.size) := Lib.hid B4.out.size
            have hh11 : w4.heap[g11]? = some (.cells #[.string yp, .string yn, .string ys, .int .i64 yv] 28 (0, 0)) := (g4.block g11 (lt_of_some K3.out.2) (fun e => (OB.out g11 e.symm).2 rfl)).trans K3.out.2
            clear u0 u1 u2 u3 t0 t1 t2 t3
            have t0 : w4.cell? ⟨g11, 0, none⟩ = some (.string yp) := cell_of_row _ _ 0 _ _ _ hh11
            have t1 : w4.cell? ⟨g11, 1, none⟩ = some (.string yn) := cell_of_row _ _ 1 _ _ _ hh11
            have t2 : w4.cell? ⟨g11, 2, none⟩ = some (.string ys) := cell_of_row _ _ 2 _ _ _ hh11
            have t3 : w4.cell? ⟨g11, 3, none⟩ = some (.int .i64 yv) := cell_of_row _ _ 3 _ _ _ hh11
            have LN4 : Hid ((l ++ [xb]).length < 100000000) := Lib.hid (by have := LL.out; simp; omega)
            obtain ⟨n4, hn4⟩ : ∃ n4, n4 = (l ++ [xb]).length := ⟨_, rfl⟩
            rw [← hn4] at O4 ⊢
            clear h4 g4 hh11 hn4
            go_wp2_with (at_builtin; refine app_row okBv (gg := w4.heap.size) rfl _ _ rfl rfl O4.out BZ4.out y ?hgg ?hcs rfl LN4.out ?_)
            case hgg => simp
            case hcs => rw [show kBv.c y = [.string yp, .string yn, .string ys, .int .i64 yv] from YE.out]
            intro v5 w5 h5 g5
            obtain ⟨a5, c5, rfl⟩ := h5.slice
            have S5 : Hid (OwnR kBv w2.heap.size w5 (.slice a5 (l ++ [xb, y]).length c5) (l ++ [xb, y]) ∧ Below w2.heap.size w2 w5) := Lib.hid ⟨h5, B4.out.trans ((Below.refl _ _).grown g5 B4.out.size (fun k e => (O4.out.lt k e).1))⟩
            clear h5 g5
            go_wp2_with fail
            go_roundg (n0 - (i + 1))
            case measure => have := G.out; omega
            case rel => exact ⟨i + 1, n + 1, true, l ++ [xb, y], a5, c5, by omega, rfl, by go_num, by first | rfl | go_num, rfl, rfl, Lib.hid ⟨NW.out.symm, by rw [← XBE.out]; exact WT.out, S5.out.1, S5.out.2⟩⟩
          | false =>
            have ed : (d || ah) = d := by cases d <;> cases ah <;> simp at hda ⊢
            have WT : Hid (way xb (M.take (i + 1)) d (l ++ [y])) := Lib.hid (by have q := WG.out; rw [ed, hda] at q; simpa using q)
            have LN : Hid (l.length < 100000000) := Lib.hid (by have := LL.out; omega)
            clear WG ed hda
            go_wp2_with (at_builtin; refine app_row okBv (gg := wc.heap.size) rfl _ _ rfl rfl O.out BZ.out y ?hgg ?hcs rfl LN.out ?_)
            case hgg => simp
            case hcs => rw [show kBv.c y = [.string yp, .string yn, .string ys, .int .i64 yv] from YE.out]
            intro v5 w5 h5 g5
            obtain ⟨a5, c5, rfl⟩ := h5.slice
            have S5 : Hid (OwnR kBv w2.heap.size w5 (.slice a5 (l ++ [y]).length c5) (l ++ [y]) ∧ Below w2.heap.size w2 w5) := Lib.hid ⟨h5, BW.out.trans ((Below.refl _ _).grown g5 BW.out.size (fun k e => (O.out.lt k e).1))⟩
            clear h5 g5
            go_wp2_with fail
            go_roundg (n0 - (i + 1))
            case measure => have := G.out; omega
            case rel => exact ⟨i + 1, n + 1, d, l ++ [y], a5, c5, by omega, rfl, by go_num, by first | rfl | go_num, rfl, rfl, Lib.hid ⟨NW.out.symm, by rw [← XBE.out]; exact WT.out, S5.out.1, S5.out.2⟩⟩
      · as_aux_lemma =>
        have g1 := teq_no e1
        have g2 := teq_no (fun e => e1 e.symm : ¬ xp = yp)
        have NW : Hid (cntP xp (M.take (i + 1)) = n) := Lib.hid (by rw [NC.out, if_neg e1]; rfl)
        have AE : Hid (ah = aheadB xp yp) := Lib.hid (AY.out.2 e1)
        clear e1 AY NC
        go_upto_region 17 with fail
        go_cut [76] (fun s76 wx => s76 = .bool (!d && ah) ∧ Hid (Below Y.heap.size Y wx))
        case first =>
          cases d with
          | true =>
            go_wp2_with fail
            go_meet
            case rel => exact ⟨rfl, Lib.hid (Below.refl _ _)⟩
          | false =>
            have RA := Lib.hid (refAhead_any xp yp Y HP.out YS.out)
            rw [← AE.out] at RA
            go_wp2_with fail
            refine RA.out.mono ?_
            rintro e w5 ⟨rfl, hb5⟩
            have B5 := Lib.hid hb5
            obtain ⟨⟨v0, v1, -, -⟩, ⟨s0, s1, -, -⟩, -⟩ := FC.out w5 hb5
            clear hb5 RA u0 u1 u2 u3 t0 t1 t2 t3
            cases ah with
            | true =>
              go_wp2_with fail
              go_meet
              case rel => exact ⟨rfl, B5⟩
            | false =>
              go_wp2_with fail
              go_meet
              case rel => exact ⟨rfl, B5⟩
        case rest =>
          obtain ⟨rfl, BC⟩ := hcut
          obtain ⟨⟨u0, u1, u2, u3⟩, ⟨t0, t1, t2, t3⟩, hO, hBw, h3, h11⟩ := FC.out wc BC.out
          have O := Lib.hid hO
          have BW := Lib.hid hBw
          have K3 := Lib.hid (And.intro h3 h11)
          have BZ : Hid (w2.heap.size ≤ wc.heap.size) := Lib.hid hBw.size
          have OB : Hid (∀ k, (Value.slice al l.length cl).ownBlock = some k → k ≠ g3 ∧ k ≠ g11) := Lib.hid (fun k e => by
            have q1 := (Q.out.2.2.1.lt k e)
            have q2 := lt_of_some AX.out.2
            have q3 := B2.out.size
            have q4 := YY.out.2.2
            omega)
          clear hO hBw h3 h11
          cases hda : (!d && ah) with
          | true =>
            have ed : d = false ∧ ah = true := by cases d <;> cases ah <;> simp at hda ⊢
            obtain ⟨rfl, rfl⟩ := ed
            have WT : Hid (way xb (M.take (i + 1)) true (l ++ [xb, y])) := Lib.hid (by have q := WG.out; simpa using q)
            have LN : Hid (l.length < 100000000) := Lib.hid (by have := LL.out; omega)
            clear WG hda
            go_wp2_with (at_builtin; refine app_row okBv (gg := wc.heap.size) rfl _ _ rfl rfl O.out BZ.out xb ?hgg ?hcs rfl LN.out ?_)
            case hgg => simp
            case hcs => rw [show kBv.c xb = [.string xp, .string xn, .string xs, .int .i64 xv] from XE.out]
            intro v4 w4 h4 g4
            obtain ⟨a4, c4, rfl⟩ := h4.slice
            have O4 := Lib.hid h4
            have B4 : Hid (Below w2.heap.size w2 w4) := Lib.hid (BW.out.trans ((Below.refl _ _).grown g4 BW.out.size (fun k e => (O.out.lt k e).1)))
            have BZ4 : Hid (w2.heap.size ≤ w4.heap.size) := Lib.hid B4.out.size
            have hh11 : w4.heap[g11]? = some (.cells #[.string yp, .string yn, .string ys, .int .i64 yv] 28 (0, 0)) := (g4.block g11 (lt_of_some K3.out.2) (fun e => (OB.out g11 e.symm).2 rfl)).trans K3.out.2
            clear u0 u1 u2 u3 t0 t1 t2 t3
            have t0 : w4.cell? ⟨g11, 0, none⟩ = some (.string yp) := cell_of_row _ _ 0 _ _ _ hh11
            have t1 : w4.cell? ⟨g11, 1, none⟩ = some (.string yn) := cell_of_row _ _ 1 _ _ _ hh11
            have t2 : w4.cell? ⟨g11, 2, none⟩ = some (.string ys) := cell_of_row _ _ 2 _ _ _ hh11
            have t3 : w4.cell? ⟨g11, 3, none⟩ = some (.int .i64 yv) := cell_of_row _ _ 3 _ _ _ hh11
            have LN4 : Hid ((l ++ [xb]).length < 100000000) := Lib.hid (by have := LL.out; simp; omega)
            obtain ⟨n4, hn4⟩ : ∃ n4, n4 = (l ++ [xb]).length := ⟨_, rfl⟩
            rw [← hn4] at O4 ⊢
            clear h4 g4 hh11 hn4
            go_wp2_with (at_builtin; refine app_row okBv (gg := w4.heap.size) rfl _ _ rfl rfl O4.out BZ4.out y ?hgg ?hcs rfl LN4.out ?_)
            case hgg => simp
            case hcs => rw [show kBv.c y = [.string yp, .string yn, .string ys, .int .i64 yv] from YE.out]
            intro v5 w5 h5 g5
            obtain ⟨a5, c5, rfl⟩ := h5.slice
            have S5 : Hid (OwnR kBv w2.heap.size w5 (.slice a5 (l ++ [xb, y]).length c5) (l ++ [xb, y]) ∧ Below w2.heap.size w2 w5) := Lib.hid ⟨h5, B4.out.trans ((Below.refl _ _).grown g5 B4.out.size (fun k e => (O4.out.lt k e).1))⟩
            clear h5 g5
            go_wp2_with fail
            go_roundg (n0 - (i + 1))
            case measure => have := G.out; omega
            case rel => exact ⟨i + 1, n, true, l ++ [xb, y], a5, c5, by omega, rfl, by go_num, by first | rfl | go_num, rfl, rfl, Lib.hid ⟨NW.out.symm, by rw [← XBE.out]; exact WT.out, S5.out.1, S5.out.2⟩⟩
          | false =>
            have ed : (d || ah) = d := by cases d <;> cases ah <;> simp at hda ⊢
            have WT : Hid (way xb (M.take (i + 1)) d (l ++ [y])) := Lib.hid (by have q := WG.out; rw [ed, hda] at q; simpa using q)
            have LN : Hid (l.length < 100000000) := Lib.hid (by have := LL.out; omega)
            clear WG ed hda
            go_wp2_with (at_builtin; refine app_row okBv (gg := wc.heap.size) rfl _ _ rfl rfl O.out BZ.out y ?hgg ?hcs rfl LN.out ?_)
            case hgg => simp
            case hcs => rw [show kBv.c y = [.string yp, .string yn, .string ys, .int .i64 yv] from YE.out]
            intro v5 w5 h5 g5
            obtain ⟨a5, c5, rfl⟩ := h5.slice
            have S5 : Hid (OwnR kBv w2.heap.size w5 (.slice a5 (l ++ [y]).length c5) (l ++ [y]) ∧ Below w2.heap.size w2 w5) := Lib.hid ⟨h5, BW.out.trans ((Below.refl _ _).grown g5 BW.out.size (fun k e => (O.out.lt k e).1))⟩
            clear h5 g5
            go_wp2_with fail
            go_roundg (n0 - (i + 1))
            case measure => have := G.out; omega
            case rel => exact ⟨i + 1, n, d, l ++ [y], a5, c5, by omega, rfl, by go_num, by first | rfl | go_num, rfl, rfl, Lib.hid ⟨NW.out.symm, by rw [← XBE.out]; exact WT.out, S5.out.1, S5.out.2⟩⟩
    · have TE : Hid (M.take i = M) := Lib.hid (List.take_of_length_le (by rw [← HN.out]; omega))
      have W1 : Hid (n = cntP xp M ∧ insB (Bv.mk ⟨xp, xn, xs, xv⟩ PV.out) M = l ++ (if d then [] else [Bv.mk ⟨xp, xn, xs, xv⟩ PV.out])) := Lib.hid ⟨by rw [Q.out.1, TE.out], by have := Q.out.2.1.fin; rw [TE.out] at this; exact this⟩
      have LL : Hid (l.length < 100000000) := Lib.hid (by have := Q.out.2.1.len; rw [TE.out] at this; have := HN.out; omega)
      have nb : n ≤ 900000 := by rw [W1.out.1]; have := cntP_le xp M; have := HN.out; omega
      have BW : Hid (Below w.heap.size w wr ∧ Below w2.heap.size w2 wr ∧ OwnR kBv w2.heap.size wr (.slice al l.length cl) l) := Lib.hid ⟨AX.out.1.trans (BQ.out.mono AX.out.1.size), Q.out.2.2.2, Q.out.2.2.1⟩
      have RX : Hid (∀ W, Below w2.heap.size w2 W → W.heap[r]? = some (.cells #[.slice a M.length c] 40 (0, 0))) := Lib.hid (fun W hW => (CX.out W (B2.out.trans (hW.mono B2.out.size))).2.2.2.2.1.x)
      have RL : Hid (r < w.heap.size ∧ w.heap.size ≤ w2.heap.size) := Lib.hid ⟨by have := HH.out.lt; have := HB.out; omega, by have := AX.out.1.size; have := B2.out.size; omega⟩
      obtain ⟨u0, u1, u2, u3, -, -, -⟩ := CX.out wr BQ.out
      have rz : wr.frozen? ⟨r, 0, none⟩ = false := frozen_of_row _ _ _ _ _ (RX.out wr BW.out.2.1)
      clear Q G
      by_cases h16 : 16 ≤ n
      · have h16' : (16 : Int) ≤ (n : Int) := by omega
        have d16 : decide ((n : Int) ≥ 16) = true := decide_eq_true h16'
        go_wp2_with fail
        go_ret
        exact ⟨194, rfl, Or.inr (Or.inl ⟨ST.out, by rw [← W1.out.1]; exact h16, rfl, BW.out.1⟩)⟩
      · have h16' : ¬ (16 : Int) ≤ (n : Int) := by omega
        have d16 : decide ((n : Int) ≥ 16) = false := decide_eq_false h16'
        have N16 : Hid (cntP xp M < 16) := Lib.hid (by rw [← W1.out.1]; omega)
        clear h16
        cases d with
        | true =>
          have IE : Hid (insB (Bv.mk ⟨xp, xn, xs, xv⟩ PV.out) M = l) := Lib.hid (by rw [W1.out.2]; simp)
          have FIN : Hid (Rt (wr.setCell ⟨r, 0, none⟩ (.slice al l.length cl)) r w.heap.size al cl l ∧ Kept (fun y => y = r) w (wr.setCell ⟨r, 0, none⟩ (.slice al l.length cl))) := Lib.hid (rt_set BW.out.1 BW.out.2.2 RL.out (RX.out wr BW.out.2.1))
          go_wp2_with fail
          go_ret
          exact ⟨0, rfl, Or.inr (Or.inr ⟨ST.out, N16.out, rfl, PV.out, al, cl, by rw [IE.out]; exact FIN.out.1, FIN.out.2⟩)⟩
        | false =>
          have BZ : Hid (w2.heap.size ≤ wr.heap.size) := Lib.hid BW.out.2.1.size
          have IE : Hid (insB (Bv.mk ⟨xp, xn, xs, xv⟩ PV.out) M = l ++ [Bv.mk ⟨xp, xn, xs, xv⟩ PV.out]) := Lib.hid (by rw [W1.out.2]; simp)
          go_wp2_with (at_builtin; refine app_row okBv (gg := wr.heap.size) rfl _ _ rfl rfl BW.out.2.2 BZ.out (Bv.mk ⟨xp, xn, xs, xv⟩ PV.out) ?hgg rfl rfl LL.out ?_)
          case hgg => simp
          intro v5 w5 h5 g5
          obtain ⟨a5, c5, rfl⟩ := h5.slice
          obtain ⟨l5, hl5⟩ : ∃ l5, l5 = l ++ [Bv.mk ⟨xp, xn, xs, xv⟩ PV.out] := ⟨_, rfl⟩
          rw [← hl5] at h5 IE ⊢
          have B5 : Hid (Below w.heap.size w w5 ∧ Below w2.heap.size w2 w5 ∧ OwnR kBv w2.heap.size w5 (.slice a5 l5.length c5) l5) := Lib.hid ⟨BW.out.1.trans ((Below.refl _ _).grown g5 BW.out.1.size (fun k e => by have := (BW.out.2.2.lt k e).1; have := B2.out.size; have := AX.out.1.size; omega)), BW.out.2.1.trans ((Below.refl _ _).grown g5 BW.out.2.1.size (fun k e => (BW.out.2.2.lt k e).1)), h5⟩
          have rz : w5.frozen? ⟨r, 0, none⟩ = false := frozen_of_row _ _ _ _ _ (RX.out w5 B5.out.2.1)
          have rc : w5.cell? ⟨r, 0, none⟩ = some (.slice a M.length c) := by rw [cell_of_row _ _ _ _ _ _ (RX.out w5 B5.out.2.1)]; rfl
          have FIN : Hid (Rt (w5.setCell ⟨r, 0, none⟩ (.slice a5 l5.length c5)) r w.heap.size a5 c5 l5 ∧ Kept (fun y => y = r) w (w5.setCell ⟨r, 0, none⟩ (.slice a5 l5.length c5))) := Lib.hid (rt_set B5.out.1 B5.out.2.2 RL.out (RX.out w5 B5.out.2.1))
          clear h5 g5 hl5
          go_wp2_with fail
          go_ret
          exact ⟨0, rfl, Or.inr (Or.inr ⟨ST.out, N16.out, rfl, PV.out, a5, c5, by rw [IE.out]; exact FIN.out.1, FIN.out.2⟩)⟩
end Ac
end Go.Proofs.YthdofbjijpghfaaGreatDoor
