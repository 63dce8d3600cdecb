/-
  THE WALK of ScopeKeepsApart.
-/
import Derived.Test.YtibjmmfodelhjaaDoorScE
import Derived.Test.YtibjmmfodelhjaaDoorScR
import Derived.Test.YtibjmmfodelhjaaDoorScF
namespace Go.Proofs.YtibjmmfodelhjaaDoor
open Go.RowKit
theorem can_len (o : Ob) : 3 ≤ (canS o).length ∧ (canS o).length ≤ 4 := by
  have h : (if 0 ≤ o.pr ∧ o.pr ≤ 9 then [((5 : Int), o.pr)] else []).length ≤ 1 := by split <;> simp
  unfold canS
  rw [List.length_append]
  simp only [List.length_cons, List.length_nil]
  omega
theorem uses_len {ps : List Pt} (h : PSz ps) : (usesL ps).length ≤ 4000000 := by
  unfold usesL
  split
  · simp
  · split
    · simp
    · rw [out_len]; exact Nat.le_trans (nms_len _) h.n
theorem OwnR.some_of {α : Type} {K : Kd α} {B : Nat} {w : World} {a : Option Addr} {n c : Nat} {xs : List α} (H : OwnR K B w (.slice a n c) xs) (h : 0 < xs.length) : ∃ g, a = some ⟨g, 0, none⟩ ∧ n = xs.length ∧ B ≤ g ∧ g < w.heap.size := by
  obtain ⟨_, ⟨hv, hn⟩ | ⟨g, cap, cur, hv, hb, hg, _⟩⟩ := H
  · simp only [Value.slice.injEq] at hv; omega
  · simp only [Value.slice.injEq] at hv
    exact ⟨g, hv.1, hv.2.1, hb, (Array.getElem?_eq_some_iff.1 hg).1⟩
/-- A row of the parts is cut. -/
theorem Row.cut {α : Type} {K : Kd α} {w : World} {a : Option Addr} {n c : Nat} {xs ys : List α} (H : Row K w (.slice a n c) (xs ++ ys)) : Row K w (.slice a xs.length c) xs := by
  obtain ⟨a', c', e, h1, h2, h0, h3⟩ := H
  simp only [Value.slice.injEq] at e
  obtain ⟨rfl, rfl, rfl⟩ := e
  rw [List.length_append] at h1
  refine ⟨a, c, rfl, by omega, h2, h0, fun k hk => ?_⟩
  obtain ⟨b, off, ea, hc⟩ := h3 k (by rw [List.length_append]; omega)
  refine ⟨b, off, ea, fun j y hy => hc j y ?_⟩
  rw [List.getD_eq_getElem?_getD, List.getElem?_append_left hk, ← List.getD_eq_getElem?_getD]; exact hy
theorem Nst.ptsCut {B : Nat} {w : World} {rs : List Pr} {ps : List Pt} {a : Option Addr} {n c : Nat} {ms : List Pr} (h : Nst B w rs ps) (H : Row kPt w (.slice a n c) (rs ++ ms)) : Pts w (.slice a ps.length c) ps :=
  ⟨rs, by rw [← h.1]; exact H.cut, h.1, fun k hk => ⟨(h.2 k hk).1, (h.2 k hk).2.1.row okAm, (h.2 k hk).2.2.row okAm⟩⟩
theorem OwnR.grownT {α : Type} {K : Kd α} {B : Nat} {w w' : World} {v : Value} {l : List α} {q : Nat} {cs : Array Value} {t : TypeId} {mk : Nat × Nat} (H : OwnR K B w v l) (hg : w.grownBy w' (some q)) (hq : w.heap[q]? = some (.cells cs t mk)) (ht : K.t ≠ t) : OwnR K B w' v l :=
  H.grownO hg (fun k e f => by
    obtain ⟨cs', m', h⟩ := H.ty k e
    injection f with f
    rw [f, hq] at h
    simp only [Option.some.injEq, Obj.cells.injEq] at h
    exact ht h.2.1.symm)
theorem Nst.grownT {B : Nat} {w w' : World} {rs : List Pr} {ps : List Pt} {q : Nat} {cs : Array Value} {t : TypeId} {mk : Nat × Nat} (h : Nst B w rs ps) (hg : w.grownBy w' (some q)) (hq : w.heap[q]? = some (.cells cs t mk)) (ht : kAm.t ≠ t) : Nst B w' rs ps :=
  ⟨h.1, fun k hk => ⟨(h.2 k hk).1, (h.2 k hk).2.1.grownT hg hq ht, (h.2 k hk).2.2.grownT hg hq ht⟩⟩
def mk1 : Pr := ⟨⟨#[109, 49]⟩, ⟨none, 0, 0⟩, ⟨none, 0, 0⟩⟩
def mk2 : Pr := ⟨⟨#[109, 50]⟩, ⟨none, 0, 0⟩, ⟨none, 0, 0⟩⟩
/-- What lies beside: the four answers. -/
structure Four (W6 : World) (s1 s2 s3 : Nat) (cl : List (Int × Int)) (ul : List Am) (av bv uv vv : Value) (xs : List (Int × Int)) (us : List Am) (W : World) : Prop where
  a : OwnR kSc W6.heap.size W av xs
  b : OwnR kSc s1 W bv cl
  u : OwnR kAm s2 W uv us
  v : OwnR kAm s3 W vv ul
  be : Below W6.heap.size W6 W
  sz : s2 ≤ W.heap.size
theorem Four.below {W6 : World} {s1 s2 s3 : Nat} {cl : List (Int × Int)} {ul : List Am} {av bv uv vv : Value} {xs : List (Int × Int)} {us : List Am} {W W' : World} (h : Four W6 s1 s2 s3 cl ul av bv uv vv xs us W) (hb : Below W.heap.size W W') : Four W6 s1 s2 s3 cl ul av bv uv vv xs us W' :=
  ⟨h.a.below hb, h.b.below hb, h.u.below hb, h.v.below hb, h.be.trans (hb.mono h.be.size), Nat.le_trans h.sz hb.size⟩
section
variable {W6 : World} {s1 s2 s3 : Nat} {cl : List (Int × Int)} {ul : List Am} {bv vv : Value} {xs : List (Int × Int)} {us : List Am} {W W' : World} {ga na ca : Nat}
theorem Four.growA {av uv : Value} (h : Four W6 s1 s2 s3 cl ul av bv uv vv xs us W) {xs' : List (Int × Int)} (hg : W.grownBy W' (some ga)) (h6 : W6.heap.size ≤ ga) (h1 : ga < s1) (h2 : s1 ≤ s2) (h3 : s2 ≤ s3) (ha : OwnR kSc W6.heap.size W' av xs') : Four W6 s1 s2 s3 cl ul av bv uv vv xs' us W' :=
  ⟨ha, h.b.far hg h1, h.u.far hg (by omega), h.v.far hg (by omega), h.be.grown hg h.be.size (fun j hj => by cases hj; exact h6), Nat.le_trans h.sz hg.size⟩
theorem Four.growU {av : Value} {gu nu cu : Nat} (h : Four W6 s1 s2 s3 cl ul av bv (.slice (some ⟨gu, 0, none⟩) nu cu) vv xs us W) {us' : List Am} (hg : W.grownBy W' (some gu)) (h6 : W6.heap.size ≤ gu) (h3 : gu < s3) (hu : OwnR kAm s2 W' (.slice (some ⟨gu, 0, none⟩) nu cu) us') : Four W6 s1 s2 s3 cl ul av bv (.slice (some ⟨gu, 0, none⟩) nu cu) vv xs us' W' := by
  obtain ⟨cur, -, -, hq, -⟩ := h.u.parts
  exact ⟨h.a.grownT hg hq (by decide), h.b.grownT hg hq (by decide), hu, h.v.far hg h3, h.be.grown hg h.be.size (fun j hj => by cases hj; exact h6), Nat.le_trans h.sz hg.size⟩
end
theorem set_getD {β : Type} (l : List β) (i j : Nat) (x d : β) (hi : i < l.length) : (l.set i x).getD j d = if j = i then x else l.getD j d := by
  rw [List.getD_eq_getElem?_getD, List.getElem?_set, List.getD_eq_getElem?_getD]
  by_cases h : i = j
  · subst h; rw [if_pos rfl, if_pos hi, if_pos rfl]; rfl
  · rw [if_neg h, if_neg (fun e => h e.symm)]
set_option maxHeartbeats 16000000 in
set_option maxRecDepth 100000 in
theorem scopeKeepsApart_walk (o : Ob) (ls ps : Value) (w : World) (hN : Nms w) (hv : ObV w ls ps o ∧ OSz o ∧ PSz o.ps ∧ o.ps.length ≤ 2000000) :
    Calls Tryd.prog 5 #[o.val ls ps] w fun e w' => e = .returned (.bool true) ∧ Below w.heap.size w w' := by
  have OZ : Hid (OSz o) := Lib.hid hv.2.1
  have PZ : Hid (PSz o.ps ∧ o.ps.length ≤ 2000000) := Lib.hid hv.2.2
  have OV : Hid (ObV w ls ps o) := Lib.hid hv.1
  have H := Lib.hid hN
  obtain ⟨la, lc, rfl, _, _⟩ := hv.1.l.len
  obtain ⟨pa, pc, rfl, _, _⟩ := hv.1.p.len
  clear hv hN
  obtain ⟨op, on, ols, opr, odl, ops, over⟩ := o
  simp only at OV PZ
  unfold Ob.val
  simp only
  obtain ⟨ln, hln⟩ : ∃ n, n = ols.length := ⟨_, rfl⟩
  obtain ⟨pn, hpn⟩ : ∃ n, n = ops.length := ⟨_, rfl⟩
  rw [← hln, ← hpn] at OV ⊢
  have HL : Hid (ln = ols.length ∧ pn = ops.length) := Lib.hid ⟨hln, hpn⟩
  have bpn : pn ≤ 2000000 := by rw [hpn]; exact PZ.out.2
  clear hln hpn
  obtain ⟨X, hX⟩ : ∃ X, X = w.alloc (.cells #[.string op, .string on, .slice la ln lc, .int .i64 opr, .int .i64 odl, .slice pa pn pc, .int .i64 over] 25) := ⟨_, rfl⟩
  have BX : Hid (Below w.heap.size w X) := Lib.hid (by rw [hX]; exact (below_alR w).out _)
  have KC : Hid (∀ W : World, Below X.heap.size X W → (W.cell? ⟨w.heap.size, 0, none⟩ = some (.string op) ∧ W.cell? ⟨w.heap.size, 1, none⟩ = some (.string on) ∧ W.cell? ⟨w.heap.size, 2, none⟩ = some (.slice la ln lc) ∧ W.cell? ⟨w.heap.size, 3, none⟩ = some (.int .i64 opr) ∧ W.cell? ⟨w.heap.size, 4, none⟩ = some (.int .i64 odl) ∧ W.cell? ⟨w.heap.size, 5, none⟩ = some (.slice pa pn pc) ∧ W.cell? ⟨w.heap.size, 6, none⟩ = some (.int .i64 over)) ∧ Below w.heap.size w W ∧ Nms W ∧ Pts W (.slice pa pn pc) ops) := Lib.hid fun W hb => by
    have q2 : ∀ j v, (#[.string op, .string on, .slice la ln lc, .int .i64 opr, .int .i64 odl, .slice pa pn pc, .int .i64 over] : Array Value)[j]? = some v → W.cell? ⟨w.heap.size, j, none⟩ = some v := fun j v hv => by
      have e : X.cell? ⟨w.heap.size, j, none⟩ = some v := by rw [hX, World.cell?_alloc_new]; exact hv
      exact (hb.cell (block_lt_of_cell e)).trans e
    have bw := BX.out.trans (hb.mono BX.out.size)
    exact ⟨⟨q2 0 _ rfl, q2 1 _ rfl, q2 2 _ rfl, q2 3 _ rfl, q2 4 _ rfl, q2 5 _ rfl, q2 6 _ rfl⟩, bw, H.out.below bw, OV.out.p.below bw⟩
  have EX := Lib.hid hX
  clear hX
  have FX := Lib.hid (fixed_any X (H.out.below BX.out))
  rw [EX.out] at FX
  go_enter Tryd.func5, Tryd.ntmps5
  go_wp2_with fail
  refine FX.out.mono ?_
  rintro e w1 ⟨rfl, hb1⟩
  rw [← EX.out] at hb1
  have X1 := Lib.hid hb1
  obtain ⟨⟨z0, z1, z2, z3, z4, z5, z6⟩, q1, q2, q3⟩ := KC.out w1 hb1
  have OW : Hid (Calls Tryd.prog 11 #[.agg #[.string op, .string on, .slice la ln lc, .int .i64 opr, .int .i64 odl, .slice pa pn pc, .int .i64 over]] w1 fun e w' => ∃ xa xc ya yc, e = .returned (.agg #[.string op, .string on, .slice xa ln xc, .int .i64 opr, .int .i64 odl, .slice ya pn yc, .int .i64 over]) ∧ (∃ rs, OwnR kPt w1.heap.size w' (.slice ya pn yc) rs ∧ Nst w1.heap.size w' rs ops) ∧ Below w1.heap.size w1 w') := Lib.hid (by
    refine (own_any ⟨op, on, ols, opr, odl, ops, over⟩ (.slice la ln lc) (.slice pa pn pc) w1 (OV.out.below q1) OZ.out).mono ?_
    rintro e w' ⟨xa, xc, ya, yc, he, ho, hb'⟩
    refine ⟨xa, xc, ya, yc, ?_, ?_, hb'⟩
    · rw [he]; unfold Ob.val; simp only [HL.out.1, HL.out.2]
    · have := ho.2
      simp only at this
      rw [HL.out.2]; exact this)
  clear hb1 FX EX q1 q2 q3
  go_wp2_with fail
  refine OW.out.mono ?_
  rintro e w2 ⟨xa, xc, ya, yc, rfl, ⟨rs, ho2, hn2⟩, hb2⟩
  have S2 : Hid (OwnR kPt w1.heap.size w2 (.slice ya pn yc) rs ∧ Nst w1.heap.size w2 rs ops ∧ Below w1.heap.size w1 w2) := Lib.hid ⟨ho2, hn2, hb2⟩
  clear ho2 hn2 hb2 OW z0 z1 z2 z3 z4 z5 z6
  obtain ⟨Y, hY⟩ : ∃ Y, Y = w2.alloc (.cells #[.string op, .string on, .slice xa ln xc, .int .i64 opr, .int .i64 odl, .slice ya pn yc, .int .i64 over] 25) := ⟨_, rfl⟩
  obtain ⟨Z, hZ⟩ : ∃ Z, Z = Y.alloc (.cells #[.string ⟨#[109, 49]⟩, .slice none 0 0, .slice none 0 0, .string ⟨#[109, 50]⟩, .slice none 0 0, .slice none 0 0] 33) := ⟨_, rfl⟩
  have ZS : Hid (Below w2.heap.size w2 Z ∧ Z.heap[w2.heap.size]? = some (.cells #[.string op, .string on, .slice xa ln xc, .int .i64 opr, .int .i64 odl, .slice ya pn yc, .int .i64 over] 25 (0, 0)) ∧ Row kPt Z (.slice (some ⟨w2.heap.size + 1, 0, none⟩) 2 2) [mk1, mk2] ∧ w2.heap.size + 2 ≤ Z.heap.size) := Lib.hid (by
    have b1 : Below w2.heap.size w2 Y := by rw [hY]; exact (below_alR w2).out _
    have ys : Y.heap.size = w2.heap.size + 1 := by rw [hY]; simp
    have b2 : Below Y.heap.size Y Z := by rw [hZ]; exact (below_alR Y).out _
    have o2 : OwnR kPt Y.heap.size Z (.slice (some ⟨Y.heap.size, 0, none⟩) 2 2) [mk1, mk2] := by rw [hZ]; exact row_built Y [mk1, mk2] okPt rfl rfl (by show 2 ≤ maxLen; decide)
    refine ⟨b1.trans (b2.mono b1.size), ?_, by rw [← ys]; exact o2.row okPt, by rw [hZ]; simp; omega⟩
    rw [b2.block _ (by rw [ys]; omega), hY]; exact heap_alloc_new _ _)
  have L3 : Hid ((rs.length + [mk1, mk2].length) * kPt.b ≤ 140737488355328) := Lib.hid (by rw [S2.out.2.1.1, ← HL.out.2]; show (pn + 2) * 64 ≤ _; omega)
  have EZ : Hid (Y = w2.alloc (.cells #[.string op, .string on, .slice xa ln xc, .int .i64 opr, .int .i64 odl, .slice ya pn yc, .int .i64 over] 25) ∧ Z = Y.alloc (.cells #[.string ⟨#[109, 49]⟩, .slice none 0 0, .slice none 0 0, .string ⟨#[109, 50]⟩, .slice none 0 0, .slice none 0 0] 33)) := Lib.hid ⟨hY, hZ⟩
  have ZO : Hid (OwnR kPt w1.heap.size Z (.slice ya pn yc) rs ∧ w1.heap.size ≤ Z.heap.size ∧ Nst w1.heap.size Z rs ops) := Lib.hid ⟨S2.out.1.below ZS.out.1, Nat.le_trans S2.out.2.2.size ZS.out.1.size, S2.out.2.1.below ZS.out.1⟩
  have ZW : Hid (OwnR kPt w1.heap.size ((w2.alloc (.cells #[.string op, .string on, .slice xa ln xc, .int .i64 opr, .int .i64 odl, .slice ya pn yc, .int .i64 over] 25)).alloc (.cells #[.string ⟨#[109, 49]⟩, .slice none 0 0, .slice none 0 0, .string ⟨#[109, 50]⟩, .slice none 0 0, .slice none 0 0] 33)) (.slice ya pn yc) rs ∧ w1.heap.size ≤ ((w2.alloc (.cells #[.string op, .string on, .slice xa ln xc, .int .i64 opr, .int .i64 odl, .slice ya pn yc, .int .i64 over] 25)).alloc (.cells #[.string ⟨#[109, 49]⟩, .slice none 0 0, .slice none 0 0, .string ⟨#[109, 50]⟩, .slice none 0 0, .slice none 0 0] 33)).heap.size ∧ Row kPt ((w2.alloc (.cells #[.string op, .string on, .slice xa ln xc, .int .i64 opr, .int .i64 odl, .slice ya pn yc, .int .i64 over] 25)).alloc (.cells #[.string ⟨#[109, 49]⟩, .slice none 0 0, .slice none 0 0, .string ⟨#[109, 50]⟩, .slice none 0 0, .slice none 0 0] 33)) (.slice (some ⟨w2.heap.size + 1, 0, none⟩) 2 2) [mk1, mk2]) := Lib.hid (by rw [← hY, ← hZ]; exact ⟨ZO.out.1, ZO.out.2.1, ZS.out.2.2.1⟩)
  clear hY hZ
  have M1 : True := trivial
  go_wp2_with (at_builtin; clear M1; refine app_rows okPt (B := w1.heap.size) (v := .slice ya pn yc) (u := .slice (some ⟨w2.heap.size + 1, 0, none⟩) 2 2) (l := rs) (m := [mk1, mk2]) rfl _ _ rfl rfl ZW.out.1 ZW.out.2.1 rfl ZW.out.2.2 L3.out ?_; intro v5 w5 h5 k5
               rw [← EZ.out.1, ← EZ.out.2] at k5
               obtain ⟨a5, c5, e5⟩ := h5.slice
               have el : (rs ++ [mk1, mk2]).length = pn + 2 := by rw [List.length_append, S2.out.2.1.1, ← HL.out.2]; rfl
               rw [el] at e5
               subst e5
               obtain ⟨g5, eg, -, hB5, hl5⟩ := h5.some_of (by rw [el]; omega)
               subst eg
               have hr5 : w5.heap[w2.heap.size]? = some (.cells #[.string op, .string on, .slice xa ln xc, .int .i64 opr, .int .i64 odl, .slice ya pn yc, .int .i64 over] 25 (0, 0)) := (k5.block _ (by have := ZS.out.2.2.2; omega) (fun e => by
                 obtain ⟨cs, mk, h⟩ := ZO.out.1.ty _ e.symm
                 rw [ZS.out.2.1] at h
                 simp only [Option.some.injEq, Obj.cells.injEq] at h
                 exact absurd h.2.1 (by decide))).trans ZS.out.2.1
               have y0 : w5.cell? ⟨w2.heap.size, 0, none⟩ = some (.string op) := cell_of_row w5 _ 0 _ _ _ hr5
               have y1 : w5.cell? ⟨w2.heap.size, 1, none⟩ = some (.string on) := cell_of_row w5 _ 1 _ _ _ hr5
               have y2 : w5.cell? ⟨w2.heap.size, 2, none⟩ = some (.slice xa ln xc) := cell_of_row w5 _ 2 _ _ _ hr5
               have y3 : w5.cell? ⟨w2.heap.size, 3, none⟩ = some (.int .i64 opr) := cell_of_row w5 _ 3 _ _ _ hr5
               have y4 : w5.cell? ⟨w2.heap.size, 4, none⟩ = some (.int .i64 odl) := cell_of_row w5 _ 4 _ _ _ hr5
               have y5 : w5.cell? ⟨w2.heap.size, 5, none⟩ = some (.slice ya pn yc) := cell_of_row w5 _ 5 _ _ _ hr5
               have y6 : w5.cell? ⟨w2.heap.size, 6, none⟩ = some (.int .i64 over) := cell_of_row w5 _ 6 _ _ _ hr5
               have yf := frozen_row hr5 5
               have hcc : pn + 2 ≤ c5 ∧ c5 ≤ 9223372036854775807 := by
                 obtain ⟨cur, q1, q2, q3, q4, q5, -⟩ := h5.parts
                 unfold maxLen at q5
                 omega
               have hc1 : pn ≤ c5 := by omega
               have S5 : Hid (OwnR kPt w1.heap.size w5 (.slice (some ⟨g5, 0, none⟩) (pn + 2) c5) (rs ++ [mk1, mk2]) ∧ Nst w1.heap.size w5 rs ops ∧ Below w1.heap.size w1 w5 ∧ w5.heap[w2.heap.size]? = some (.cells #[.string op, .string on, .slice xa ln xc, .int .i64 opr, .int .i64 odl, .slice ya pn yc, .int .i64 over] 25 (0, 0)) ∧ w2.heap.size < w5.heap.size) := Lib.hid (by
                 have b2 : Below w1.heap.size w1 Z := S2.out.2.2.trans (ZS.out.1.mono S2.out.2.2.size)
                 exact ⟨h5, ZO.out.2.2.grown ZO.out.1 k5, b2.grown k5 ZO.out.2.1 (fun j hj => (ZO.out.1.lt j hj).1), hr5, by have h1 := ZS.out.2.2.2; have h2 := k5.size; omega⟩)
               clear h5 k5 hr5 el)
  obtain ⟨W6, h6⟩ : ∃ W6, W6 = (w5.setCell ⟨w2.heap.size, 5, none⟩ (.slice (some ⟨g5, 0, none⟩) pn c5)) := ⟨_, rfl⟩
  have B6 : Hid (Below w1.heap.size w1 W6 ∧ Below X.heap.size X W6) := Lib.hid (by
    have q : Below w1.heap.size w1 W6 := by rw [h6]; exact S5.out.2.2.1.setCell (p := ⟨w2.heap.size, 5, none⟩) S2.out.2.2.size _
    exact ⟨q, X1.out.trans (q.mono X1.out.size)⟩)
  have gs6 := grown_set w5 w2.heap.size 5 (.slice (some ⟨g5, 0, none⟩) pn c5)
  have S6 : Hid (OwnR kPt w1.heap.size W6 (.slice (some ⟨g5, 0, none⟩) (pn + 2) c5) (rs ++ [mk1, mk2]) ∧ Nst w1.heap.size W6 rs ops) := Lib.hid (by
    rw [h6]
    exact ⟨S5.out.1.grownT gs6 S5.out.2.2.2.1 (by decide), S5.out.2.1.grownT gs6 S5.out.2.2.2.1 (by decide)⟩)
  have P6 : Hid (∀ W : World, Below W6.heap.size W6 W → (W.cell? ⟨w2.heap.size, 0, none⟩ = some (.string op) ∧ W.cell? ⟨w2.heap.size, 1, none⟩ = some (.string on) ∧ W.cell? ⟨w2.heap.size, 2, none⟩ = some (.slice xa ln xc) ∧ W.cell? ⟨w2.heap.size, 3, none⟩ = some (.int .i64 opr) ∧ W.cell? ⟨w2.heap.size, 4, none⟩ = some (.int .i64 odl) ∧ W.cell? ⟨w2.heap.size, 5, none⟩ = some (.slice (some ⟨g5, 0, none⟩) pn c5) ∧ W.cell? ⟨w2.heap.size, 6, none⟩ = some (.int .i64 over)) ∧ Below X.heap.size X W ∧ Pts W (.slice (some ⟨g5, 0, none⟩) pn c5) ops ∧ W.cell? ⟨g5, pn * 3, none⟩ = some (.string ⟨#[109, 49]⟩) ∧ W.cell? ⟨g5, (pn + 1) * 3, none⟩ = some (.string ⟨#[109, 50]⟩)) := Lib.hid fun W hb => by
    have hc : ∀ j v, (#[.string op, .string on, .slice xa ln xc, .int .i64 opr, .int .i64 odl, .slice (some ⟨g5, 0, none⟩) pn c5, .int .i64 over] : Array Value)[j]? = some v → W.cell? ⟨w2.heap.size, j, none⟩ = some v := fun j v hv => by
      have hrow : W6.heap[w2.heap.size]? = some (.cells #[.string op, .string on, .slice xa ln xc, .int .i64 opr, .int .i64 odl, .slice (some ⟨g5, 0, none⟩) pn c5, .int .i64 over] 25 (0, 0)) := by
        rw [h6, heap_setCell_same _ _ _ _ _ _ S5.out.2.2.2.1]; rfl
      have e : W6.cell? ⟨w2.heap.size, j, none⟩ = some v := by rw [cell_of_row W6 _ j _ _ _ hrow]; exact hv
      exact (hb.cell (block_lt_of_cell e)).trans e
    have hR : Row kPt W (.slice (some ⟨g5, 0, none⟩) (pn + 2) c5) (rs ++ [mk1, mk2]) := (S6.out.1.row okPt).below hb
    have rl : rs.length = pn := by rw [S6.out.2.1, HL.out.2]
    have hm : ∀ t, t < 2 → ∀ j v, (kPt.c ((rs ++ [mk1, mk2]).getD (pn + t) kPt.z))[j]? = some v → W.cell? ⟨g5, (pn + t) * 3 + j, none⟩ = some v := fun t ht j v hv => by
      obtain ⟨b', off', e', hcc⟩ := hR.at (pn + t) (by rw [List.length_append, rl]; simp; omega)
      simp only [Option.some.injEq, Addr.mk.injEq, and_true] at e'
      obtain ⟨rfl, rfl⟩ := e'
      have := hcc j v hv
      rw [Nat.zero_add] at this
      exact this
    refine ⟨⟨hc 0 _ rfl, hc 1 _ rfl, hc 2 _ rfl, hc 3 _ rfl, hc 4 _ rfl, hc 5 _ rfl, hc 6 _ rfl⟩, B6.out.2.trans (hb.mono B6.out.2.size), ?_, ?_, ?_⟩
    · have q := (S6.out.2.below hb).ptsCut hR
      rw [← HL.out.2] at q
      exact q
    · refine hm 0 (by omega) 0 _ ?_
      rw [List.getD_eq_getElem?_getD, List.getElem?_append_right (by omega), rl, Nat.add_zero, Nat.sub_self]; rfl
    · refine hm 1 (by omega) 0 _ ?_
      rw [List.getD_eq_getElem?_getD, List.getElem?_append_right (by omega), rl, show pn + 1 - pn = 1 by omega]; rfl
  rw [← h6]
  clear h6 gs6 y0 y1 y2 y3 y4 y5 y6 yf S5 S2 ZS EZ ZO ZW L3
  obtain ⟨cl, hcl⟩ : ∃ cl, cl = canS ⟨op, on, ols, opr, odl, ops, over⟩ := ⟨_, rfl⟩
  have CL : Hid (3 ≤ cl.length ∧ cl.length ≤ 4) := Lib.hid (by rw [hcl]; exact can_len _)
  obtain ⟨ul, hul⟩ : ∃ ul, ul = usesL ops := ⟨_, rfl⟩
  obtain ⟨ue, hue⟩ : ∃ ue, ue = usesE ops := ⟨_, rfl⟩
  have UL : Hid (ul.length ≤ 4000000) := Lib.hid (by rw [hul]; exact uses_len PZ.out.1)
  have OF : Hid (∀ W, Below W6.heap.size W6 W → Calls Tryd.prog 18 #[.agg #[.string op, .string on, .slice xa ln xc, .int .i64 opr, .int .i64 odl, .slice (some ⟨g5, 0, none⟩) pn c5, .int .i64 over]] W fun e w' => ∃ a n c, e = .returned (.slice a n c) ∧ OwnR kSc W.heap.size w' (.slice a n c) cl ∧ Below W.heap.size W w') := Lib.hid fun W hb => by
    rw [hcl]
    exact of_any ⟨op, on, ols, opr, odl, ops, over⟩ xa ln xc (some ⟨g5, 0, none⟩) pn c5 W (KC.out W (P6.out W hb).2.1).2.2.1 (P6.out W hb).2.2.1
  have US : Hid (∀ W, Below W6.heap.size W6 W → Calls Tryd.prog 10 #[.agg #[.string op, .string on, .slice xa ln xc, .int .i64 opr, .int .i64 odl, .slice (some ⟨g5, 0, none⟩) pn c5, .int .i64 over]] W fun e w' => ∃ a n c, e = .returned (.tuple #[.slice a n c, .int .i64 ue]) ∧ OwnR kAm W.heap.size w' (.slice a n c) ul ∧ Below W.heap.size W w') := Lib.hid fun W hb => by
    rw [hul, hue]
    have q := (P6.out W hb).2.2.1
    rw [HL.out.2] at q ⊢
    exact uses_core op on opr odl over xa ln xc (some ⟨g5, 0, none⟩) c5 ops W q PZ.out.1
  clear hcl hul hue
  obtain ⟨p0, p1, p2, p3, p4, p5, p6⟩ := (P6.out W6 (Below.refl _ _)).1
  refine (OF.out W6 (Below.refl _ _)).mono ?_
  rintro e wa ⟨aa, na, ca, rfl, ha, hba⟩
  obtain ⟨ga, ea, ena, hga, hla⟩ := ha.some_of (by have := CL.out; omega)
  subst ea
  have XA := Lib.hid hba
  have SA : Hid (OwnR kSc W6.heap.size wa (.slice (some ⟨ga, 0, none⟩) na ca) cl ∧ na = cl.length ∧ W6.heap.size ≤ ga ∧ ga < wa.heap.size) := Lib.hid ⟨ha, ena, hga, hla⟩
  clear ha hba ena hga hla p0 p1 p2 p3 p4 p5 p6
  obtain ⟨p0, p1, p2, p3, p4, p5, p6⟩ := (P6.out wa XA.out).1
  go_wp2_with fail
  refine (OF.out wa XA.out).mono ?_
  rintro e wb ⟨ab, nb, cb, rfl, ha, hbb⟩
  obtain ⟨gb, eb, enb, hgb, hlb⟩ := ha.some_of (by have := CL.out; omega)
  subst eb
  have XB : Hid (Below W6.heap.size W6 wb) := Lib.hid (XA.out.trans (hbb.mono XA.out.size))
  have SB : Hid (OwnR kSc W6.heap.size wb (.slice (some ⟨ga, 0, none⟩) na ca) cl ∧ OwnR kSc wa.heap.size wb (.slice (some ⟨gb, 0, none⟩) nb cb) cl ∧ nb = cl.length ∧ wa.heap.size ≤ gb ∧ gb < wb.heap.size ∧ wa.heap.size ≤ wb.heap.size) := Lib.hid ⟨SA.out.1.below hbb, ha, enb, hgb, hlb, hbb.size⟩
  clear ha hbb enb hgb hlb p0 p1 p2 p3 p4 p5 p6
  obtain ⟨p0, p1, p2, p3, p4, p5, p6⟩ := (P6.out wb XB.out).1
  go_wp2_with fail
  refine (US.out wb XB.out).mono ?_
  rintro e wu ⟨au, nu, cu, rfl, hu, hbu⟩
  have enu : nu = ul.length := by obtain ⟨_, _, e⟩ := hu.slice; simp only [Value.slice.injEq] at e; exact e.2.1
  have XU : Hid (Below W6.heap.size W6 wu) := Lib.hid (XB.out.trans (hbu.mono XB.out.size))
  have SU : Hid (OwnR kSc W6.heap.size wu (.slice (some ⟨ga, 0, none⟩) na ca) cl ∧ OwnR kSc wa.heap.size wu (.slice (some ⟨gb, 0, none⟩) nb cb) cl ∧ OwnR kAm wb.heap.size wu (.slice au nu cu) ul ∧ nu = ul.length ∧ wb.heap.size ≤ wu.heap.size) := Lib.hid ⟨SB.out.1.below hbu, SB.out.2.1.below hbu, hu, enu, hbu.size⟩
  clear hu hbu enu p0 p1 p2 p3 p4 p5 p6
  obtain ⟨p0, p1, p2, p3, p4, p5, p6⟩ := (P6.out wu XU.out).1
  go_wp2_with fail
  refine (US.out wu XU.out).mono ?_
  rintro e wv ⟨av, nv, cv, rfl, hu, hbv⟩
  have env : nv = ul.length := by obtain ⟨_, _, e⟩ := hu.slice; simp only [Value.slice.injEq] at e; exact e.2.1
  have XV : Hid (Below W6.heap.size W6 wv) := Lib.hid (XU.out.trans (hbv.mono XU.out.size))
  have SV : Hid (Four W6 wa.heap.size wb.heap.size wu.heap.size cl ul (.slice (some ⟨ga, 0, none⟩) na ca) (.slice (some ⟨gb, 0, none⟩) nb cb) (.slice au nu cu) (.slice av nv cv) cl ul wv ∧ nv = ul.length) := Lib.hid ⟨⟨SU.out.1.below hbv, SU.out.2.1.below hbv, SU.out.2.2.1.below hbv, hu, XV.out, Nat.le_trans SU.out.2.2.2.2 hbv.size⟩, env⟩
  clear hu hbv env p0 p1 p2 p3 p4 p5 p6
  obtain ⟨⟨p0, p1, p2, p3, p4, p5, p6⟩, bx, -, m0, m1⟩ := P6.out wv XV.out
  obtain ⟨⟨z0, z1, z2, z3, z4, z5, z6⟩, -, -, -⟩ := KC.out wv bx
  have SP : Hid (Calls Tryd.prog 19 #[.agg #[.string op, .string on, .slice xa ln xc, .int .i64 opr, .int .i64 odl, .slice (some ⟨g5, 0, none⟩) pn c5, .int .i64 over], .agg #[.string op, .string on, .slice la ln lc, .int .i64 opr, .int .i64 odl, .slice pa pn pc, .int .i64 over]] wv fun e w' => e = .returned (.bool true) ∧ Below wv.heap.size wv w') := Lib.hid (sameParts_yes op on opr odl over xa ln xc (some ⟨g5, 0, none⟩) pn c5 op on opr odl over la ln lc pa pc ops wv HL.out.2 (P6.out wv XV.out).2.2.1 (KC.out wv bx).2.2.2)
  clear bx
  go_wp2_with fail
  refine SP.out.mono ?_
  rintro e wc ⟨rfl, hbc⟩
  have SC := Lib.hid (SV.out.1.below hbc)
  clear hbc SP p0 p1 p2 p3 p4 p5 p6 z0 z1 z2 z3 z4 z5 z6 m0 m1
  have NA : Hid (na = cl.length ∧ nb = cl.length ∧ nu = ul.length ∧ nv = ul.length) := Lib.hid ⟨SA.out.2.1, SB.out.2.2.1, SU.out.2.2.2.1, SV.out.2⟩
  have ena : 3 ≤ na ∧ na ≤ 4 := by rw [NA.out.1]; exact CL.out
  have gna : decide ((na : Int) < 3) = false := decide_eq_false (by omega)
  go_wp2_with fail
  have NS : Hid (W6.heap.size ≤ ga ∧ ga < wa.heap.size ∧ wa.heap.size ≤ wb.heap.size ∧ wb.heap.size ≤ wu.heap.size ∧ W6.heap.size ≤ wb.heap.size) := Lib.hid ⟨SA.out.2.2.1, SA.out.2.2.2, SB.out.2.2.2.2.2, SU.out.2.2.2.2, XB.out.size⟩
  have UG : Hid (∀ gu, au = some ⟨gu, 0, none⟩ → wb.heap.size ≤ gu ∧ gu < wu.heap.size) := Lib.hid fun gu e => by
    have q := SU.out.2.2.1
    rw [e] at q
    exact q.lt gu rfl
  clear gna
  go_loopg [13] na (fun g si wr => ∃ (i : Nat) (xs : List (Int × Int)), i ≤ na ∧ g = na - i ∧ si = .int .i64 i ∧ Four W6 wa.heap.size wb.heap.size wu.heap.size cl ul (.slice (some ⟨ga, 0, none⟩) na ca) (.slice (some ⟨gb, 0, none⟩) nb cb) (.slice au nu cu) (.slice av nv cv) xs ul wr ∧ xs.length = cl.length ∧ ∀ j, j < i → (xs.getD j kSc.z).1 = 77)
  case atStart => exact ⟨0, cl, Nat.zero_le _, rfl, rfl, SC.out, rfl, fun j hj => absurd hj (by omega)⟩
  case round =>
    obtain ⟨i, xs, hi, hg, rfl, hF, hxl, hx⟩ := hrel
    have R : Hid (gk = na - i ∧ Four W6 wa.heap.size wb.heap.size wu.heap.size cl ul (.slice (some ⟨ga, 0, none⟩) na ca) (.slice (some ⟨gb, 0, none⟩) nb cb) (.slice au nu cu) (.slice av nv cv) xs ul wr ∧ xs.length = cl.length ∧ ∀ j, j < i → (xs.getD j kSc.z).1 = 77) := Lib.hid ⟨hg, hF, hxl, hx⟩
    clear hg hF hxl hx
    by_cases hlt : i < na
    · have hlt' : (i : Int) < (na : Int) := by omega
      have hil : i < xs.length := by rw [R.out.2.2.1, ← NA.out.1]; exact hlt
      obtain ⟨cur, -, -, hq, -⟩ := R.out.2.1.a.parts
      have f0 := frozen_row hq (i * 2)
      obtain ⟨b', off', e', hcc⟩ := (R.out.2.1.a.row okSc).at i hil
      simp only [Option.some.injEq, Addr.mk.injEq, and_true] at e'
      obtain ⟨rfl, rfl⟩ := e'
      have c0 : wr.cell? ⟨ga, i * 2, none⟩ = some (.int .i64 (xs.getD i kSc.z).1) := by
        have := hcc 0 _ rfl
        rw [Nat.zero_add] at this
        exact this
      have NF : Hid (Four W6 wa.heap.size wb.heap.size wu.heap.size cl ul (.slice (some ⟨ga, 0, none⟩) na ca) (.slice (some ⟨gb, 0, none⟩) nb cb) (.slice au nu cu) (.slice av nv cv) (xs.set i (77, (xs.getD i kSc.z).2)) ul (wr.setCell ⟨ga, i * 2, none⟩ (.int .i64 77)) ∧ (xs.set i (77, (xs.getD i kSc.z).2)).length = cl.length ∧ ∀ j, j < i + 1 → ((xs.set i (77, (xs.getD i kSc.z).2)).getD j kSc.z).1 = 77) := Lib.hid ⟨R.out.2.1.growA (grown_set wr ga (i * 2) _) NS.out.1 NS.out.2.1 NS.out.2.2.1 NS.out.2.2.2.1 (R.out.2.1.a.set okSc i 0 hil (by decide) _ _ rfl), by rw [List.length_set]; exact R.out.2.2.1, fun j hj => by
        rw [set_getD _ _ _ _ _ hil]
        by_cases e : j = i
        · rw [if_pos e]
        · rw [if_neg e]; exact R.out.2.2.2 j (by omega)⟩
      clear hcc hq hil
      go_wp2_with fail
      go_roundg (na - (i + 1))
      case measure => have := R.out.1; omega
      case rel => exact ⟨i + 1, _, by omega, rfl, by go_num, NF.out.1, NF.out.2.1, NF.out.2.2⟩
    · have R1 : Hid (Four W6 wa.heap.size wb.heap.size wu.heap.size cl ul (.slice (some ⟨ga, 0, none⟩) na ca) (.slice (some ⟨gb, 0, none⟩) nb cb) (.slice au nu cu) (.slice av nv cv) xs ul wr ∧ xs.length = cl.length ∧ ∀ j, j < na → (xs.getD j kSc.z).1 = 77) := Lib.hid ⟨R.out.2.1, R.out.2.2.1, fun j hj => R.out.2.2.2 j (by omega)⟩
      have bnu : nu ≤ 4000000 := by rw [NA.out.2.2.1]; exact UL.out
      go_wp2_with fail
      clear R
      go_loopg [14] nu (fun g si wr => ∃ (i : Nat) (us : List Am), i ≤ nu ∧ g = nu - i ∧ si = .int .i64 i ∧ Four W6 wa.heap.size wb.heap.size wu.heap.size cl ul (.slice (some ⟨ga, 0, none⟩) na ca) (.slice (some ⟨gb, 0, none⟩) nb cb) (.slice au nu cu) (.slice av nv cv) xs us wr ∧ us.length = ul.length ∧ ∀ j, j < i → (us.getD j kAm.z).v = -5)
      case atStart => exact ⟨0, ul, Nat.zero_le _, rfl, rfl, R1.out.1, rfl, fun j hj => absurd hj (by omega)⟩
      case round =>
        obtain ⟨i, us, hi, hg, rfl, hF, hul, hu⟩ := hrel
        have R : Hid (gk = nu - i ∧ Four W6 wa.heap.size wb.heap.size wu.heap.size cl ul (.slice (some ⟨ga, 0, none⟩) na ca) (.slice (some ⟨gb, 0, none⟩) nb cb) (.slice au nu cu) (.slice av nv cv) xs us wr ∧ us.length = ul.length ∧ ∀ j, j < i → (us.getD j kAm.z).v = -5) := Lib.hid ⟨hg, hF, hul, hu⟩
        clear hg hF hul hu
        by_cases hlt : i < nu
        · have hlt' : (i : Int) < (nu : Int) := by omega
          have hil : i < us.length := by rw [R.out.2.2.1, ← NA.out.2.2.1]; exact hlt
          obtain ⟨gu, eu, -, -, -⟩ := R.out.2.1.u.some_of (by omega)
          subst eu
          have GU := Lib.hid (UG.out gu rfl)
          obtain ⟨cur, -, -, hq, -⟩ := R.out.2.1.u.parts
          have f0 := frozen_row hq (i * 2 + 1)
          obtain ⟨b', off', e', hcc⟩ := (R.out.2.1.u.row okAm).at i hil
          simp only [Option.some.injEq, Addr.mk.injEq, and_true] at e'
          obtain ⟨rfl, rfl⟩ := e'
          have c0 : wr.cell? ⟨gu, i * 2 + 1, none⟩ = some (.int .i64 (us.getD i kAm.z).v) := by
            have := hcc 1 _ rfl
            rw [Nat.zero_add] at this
            exact this
          have NF : Hid (Four W6 wa.heap.size wb.heap.size wu.heap.size cl ul (.slice (some ⟨ga, 0, none⟩) na ca) (.slice (some ⟨gb, 0, none⟩) nb cb) (.slice (some ⟨gu, 0, none⟩) nu cu) (.slice av nv cv) xs (us.set i ⟨(us.getD i kAm.z).n, -5⟩) (wr.setCell ⟨gu, i * 2 + 1, none⟩ (.int .i64 (-5))) ∧ (us.set i ⟨(us.getD i kAm.z).n, -5⟩).length = ul.length ∧ ∀ j, j < i + 1 → ((us.set i ⟨(us.getD i kAm.z).n, -5⟩).getD j kAm.z).v = -5) := Lib.hid ⟨R.out.2.1.growU (grown_set wr gu (i * 2 + 1) _) (Nat.le_trans NS.out.2.2.2.2 GU.out.1) GU.out.2 (R.out.2.1.u.set okAm i 1 hil (by decide) _ _ rfl), by rw [List.length_set]; exact R.out.2.2.1, fun j hj => by
            rw [set_getD _ _ _ _ _ hil]
            by_cases e : j = i
            · rw [if_pos e]
            · rw [if_neg e]; exact R.out.2.2.2 j (by omega)⟩
          clear hcc hq hil
          go_wp2_with fail
          go_roundg (nu - (i + 1))
          case measure => have := R.out.1; omega
          case rel => exact ⟨i + 1, _, by omega, rfl, by go_num, NF.out.1, NF.out.2.1, NF.out.2.2⟩
        · have R2 : Hid (Four W6 wa.heap.size wb.heap.size wu.heap.size cl ul (.slice (some ⟨ga, 0, none⟩) na ca) (.slice (some ⟨gb, 0, none⟩) nb cb) (.slice au nu cu) (.slice av nv cv) xs us wr ∧ us.length = ul.length ∧ ∀ j, j < nu → (us.getD j kAm.z).v = -5) := Lib.hid ⟨R.out.2.1, R.out.2.2.1, fun j hj => R.out.2.2.2 j (by omega)⟩
          -- END
          clear R
          by_cases hnu : nu = 0
          · have HU := Lib.hid hnu
            clear hnu
            have L1 : Hid ((xs.length + 1) * kSc.b ≤ 140737488355328) := Lib.hid (by rw [R1.out.2.1, ← NA.out.1]; show (na + 1) * 16 ≤ _; omega)
            have L2 : Hid ((us.length + 1) * kAm.b ≤ 140737488355328) := Lib.hid (by rw [R2.out.2.1, ← NA.out.2.2.1]; show (nu + 1) * 24 ≤ _; omega)
            have M1 : True := trivial
            have M2 : True := trivial
            go_wp2_with (first
              | (at_builtin; clear M1; refine app_moreK okSc (gg := wr.heap.size) rfl _ _ rfl rfl R2.out.1.a R2.out.1.be.size (78, 0) (by simp) rfl rfl L1.out ?_; intro v7 w7 h7 n7 k7; obtain ⟨a7, c7, e7⟩ := n7.slice
                 have el7 : (xs ++ [((78 : Int), (0 : Int))]).length = na + 1 := by rw [List.length_append, R1.out.2.1, ← NA.out.1]; rfl
                 rw [el7] at e7
                 subst e7
                 have F7 : Hid (Four W6 wa.heap.size wb.heap.size wu.heap.size cl ul (.slice (some ⟨ga, 0, none⟩) na ca) (.slice (some ⟨gb, 0, none⟩) nb cb) (.slice au nu cu) (.slice av nv cv) xs us w7 ∧ OwnR kSc W6.heap.size w7 (.slice a7 (na + 1) c7) (xs ++ [(78, 0)])) := Lib.hid ⟨R2.out.1.growA k7 NS.out.1 NS.out.2.1 NS.out.2.2.1 NS.out.2.2.2.1 h7, n7⟩
                 clear h7 n7 k7 el7)
              | (at_builtin; clear M2; refine app_rowB okAm (gg := w7.heap.size) rfl _ _ rfl rfl F7.out.1.u F7.out.1.sz ⟨⟨#[120]⟩, 0⟩ (by simp) rfl rfl L2.out ?_; intro v8 w8 n8 k8; obtain ⟨a8, c8, e8⟩ := n8.slice
                 have el8 : (us ++ [(⟨⟨#[120]⟩, 0⟩ : Am)]).length = nu + 1 := by rw [List.length_append, R2.out.2.1, ← NA.out.2.2.1]; rfl
                 rw [el8] at e8
                 subst e8
                 have F8 : Hid ((OwnR kSc W6.heap.size w8 (.slice (some ⟨ga, 0, none⟩) na ca) xs ∧ OwnR kSc wa.heap.size w8 (.slice (some ⟨gb, 0, none⟩) nb cb) cl ∧ OwnR kAm wu.heap.size w8 (.slice av nv cv) ul ∧ Below W6.heap.size W6 w8) ∧ OwnR kSc W6.heap.size w8 (.slice a7 (na + 1) c7) (xs ++ [(78, 0)]) ∧ OwnR kAm wb.heap.size w8 (.slice a8 (nu + 1) c8) (us ++ [⟨⟨#[120]⟩, 0⟩])) := Lib.hid (by
                   have f := F7.out.1
                   refine ⟨⟨f.a.grownO k8 (fun k e q => f.a.apart f.u (by decide) k e q), f.b.grownO k8 (fun k e q => f.b.apart f.u (by decide) k e q), f.v.grownO k8 (fun k e q => ?_), f.be.grown k8 f.be.size (fun j hj => Nat.le_trans NS.out.2.2.2.2 (f.u.lt j hj).1)⟩, F7.out.2.grownO k8 (fun k e q => F7.out.2.apart f.u (by decide) k e q), n8⟩
                   have h1 := (f.v.lt k e).1
                   have h2 := SU.out.2.2.1.lt k q.symm
                   omega)
                 obtain ⟨p0, p1, p2, p3, p4, p5, p6⟩ := (P6.out w8 F8.out.1.2.2.2).1
                 clear n8 k8 el8))
            refine (US.out w8 F8.out.1.2.2.2).mono ?_
            rintro e w9 ⟨aw, nw, cw, rfl, hw9, hb9⟩
            have X9 : Hid (Below W6.heap.size W6 w9) := Lib.hid (F8.out.1.2.2.2.trans (hb9.mono F8.out.1.2.2.2.size))
            have R9 : Hid (Row kSc w9 (.slice (some ⟨ga, 0, none⟩) na ca) xs ∧ Row kSc w9 (.slice (some ⟨gb, 0, none⟩) nb cb) cl ∧ Row kAm w9 (.slice av nv cv) ul ∧ OwnR kSc W6.heap.size w9 (.slice a7 (na + 1) c7) (xs ++ [(78, 0)]) ∧ OwnR kAm wb.heap.size w9 (.slice a8 (nu + 1) c8) (us ++ [⟨⟨#[120]⟩, 0⟩]) ∧ Row kAm w9 (.slice aw nw cw) ul) := Lib.hid ⟨(F8.out.1.1.row okSc).below hb9, (F8.out.1.2.1.row okSc).below hb9, (F8.out.1.2.2.1.row okAm).below hb9, F8.out.2.1.below hb9, F8.out.2.2.below hb9, hw9.row okAm⟩
            clear hw9 hb9 p0 p1 p2 p3 p4 p5 p6
            obtain ⟨p0, p1, p2, p3, p4, p5, p6⟩ := (P6.out w9 X9.out).1
            go_wp2_with fail
            refine (OF.out w9 X9.out).mono ?_
            rintro e wd ⟨ax, nx, cx, rfl, hx9, hbd⟩
            have XD : Hid (Below W6.heap.size W6 wd) := Lib.hid (X9.out.trans (hbd.mono X9.out.size))
            have RD : Hid (Row kSc wd (.slice (some ⟨ga, 0, none⟩) na ca) xs ∧ Row kSc wd (.slice (some ⟨gb, 0, none⟩) nb cb) cl ∧ Row kAm wd (.slice av nv cv) ul ∧ Row kAm wd (.slice aw nw cw) ul ∧ Row kSc wd (.slice ax nx cx) cl) := Lib.hid ⟨R9.out.1.below hbd, R9.out.2.1.below hbd, R9.out.2.2.1.below hbd, R9.out.2.2.2.2.2.below hbd, hx9.row okSc⟩
            obtain ⟨gg, eg, -, -, -⟩ := R9.out.2.2.2.1.some_of (by simp)
            subst eg
            obtain ⟨gh, eh, -, -, -⟩ := R9.out.2.2.2.2.1.some_of (by simp)
            subst eh
            have LST : Hid (∀ W, Below wd.heap.size wd W → W.cell? ⟨gg, na * 2, none⟩ = some (.int .i64 78) ∧ W.cell? ⟨gh, nu * 2, none⟩ = some (.string ⟨#[120]⟩)) := Lib.hid fun W hb => by
              have q1 := ((R9.out.2.2.2.1.row okSc).below hbd).below hb
              have q2 := ((R9.out.2.2.2.2.1.row okAm).below hbd).below hb
              have ex : xs.length = na := by rw [R1.out.2.1, NA.out.1]
              have eu : us.length = nu := by rw [R2.out.2.1, NA.out.2.2.1]
              obtain ⟨b1, o1, e1, c1⟩ := q1.at na (by rw [List.length_append, ex]; simp)
              obtain ⟨b2, o2, e2, c2⟩ := q2.at nu (by rw [List.length_append, eu]; simp)
              simp only [Option.some.injEq, Addr.mk.injEq, and_true] at e1 e2
              obtain ⟨rfl, rfl⟩ := e1
              obtain ⟨rfl, rfl⟩ := e2
              have t1 := c1 0 (.int .i64 78) (by rw [List.getD_eq_getElem?_getD, List.getElem?_append_right (by omega), ex, Nat.sub_self]; rfl)
              have t2 := c2 0 (.string ⟨#[120]⟩) (by rw [List.getD_eq_getElem?_getD, List.getElem?_append_right (by omega), eu, Nat.sub_self]; rfl)
              rw [Nat.zero_add] at t1 t2
              exact ⟨t1, t2⟩
            clear hx9 hbd p0 p1 p2 p3 p4 p5 p6
            have enb : nb = na := by rw [NA.out.2.1, NA.out.1]
            have env : nv = nu := by rw [NA.out.2.2.2, NA.out.2.2.1]
            subst enb env
            go_wp2_with fail
            go_loopg [20] nb (fun g si wr => ∃ (i : Nat), i ≤ nb ∧ g = nb - i ∧ si = .int .i64 i ∧ wr = wd)
            case atStart => exact ⟨0, Nat.zero_le _, rfl, rfl, rfl⟩
            case round =>
              obtain ⟨i, hi, hg, rfl, rfl⟩ := hrel
              have G := Lib.hid hg
              clear hg
              by_cases hlt : i < nb
              · have hlt' : (i : Int) < (nb : Int) := by omega
                obtain ⟨b', off', e', hcc⟩ := RD.out.1.at i (by rw [R1.out.2.1, ← NA.out.1]; exact hlt)
                simp only [Option.some.injEq, Addr.mk.injEq, and_true] at e'
                obtain ⟨rfl, rfl⟩ := e'
                have c0 : wr.cell? ⟨ga, i * 2, none⟩ = some (.int .i64 77) := by
                  have := hcc 0 _ rfl
                  rw [Nat.zero_add] at this
                  rw [← R1.out.2.2 i hlt]
                  exact this
                clear hcc
                go_wp2_with fail
                go_roundg (nb - (i + 1))
                case measure => have := G.out; omega
                case rel => exact ⟨i + 1, by omega, rfl, by go_num, rfl⟩
              · clear G
                go_wp2_with fail
                go_loopg [21] nv (fun g si wq => ∃ (i : Nat), i ≤ nv ∧ g = nv - i ∧ si = .int .i64 i ∧ wq = wr)
                case atStart => exact ⟨0, Nat.zero_le _, rfl, rfl, rfl⟩
                case round =>
                  obtain ⟨j, hj, hg, rfl, rfl⟩ := hrel
                  have G := Lib.hid hg
                  clear hg
                  by_cases hlj : j < nv
                  · exact absurd hlj (by have := HU.out; omega)
                  · clear G
                    have ge : (ue == ue) = true := by simp
                    have SS := Lib.hid (sameScopes_yes _ _ cl wr RD.out.2.1 RD.out.2.2.2.2)
                    go_wp2_with fail
                    refine SS.out.mono ?_
                    rintro e we ⟨rfl, hbe⟩
                    have SM := Lib.hid (sameAmounts_yes _ _ ul we (RD.out.2.2.1.below hbe) (RD.out.2.2.2.1.below hbe))
                    have BE := Lib.hid hbe
                    clear hbe SS
                    go_wp2_with fail
                    refine SM.out.mono ?_
                    rintro e wf ⟨rfl, hbf⟩
                    have bf : Below wr.heap.size wr wf := BE.out.trans (hbf.mono BE.out.size)
                    obtain ⟨l1, l2⟩ := LST.out wf bf
                    have BF : Hid (Below w.heap.size w wf) := Lib.hid (KC.out wf (P6.out wf (XD.out.trans (bf.mono XD.out.size))).2.1).2.1
                    clear hbf bf SM
                    go_wp2_with fail
                    go_ret
                    exact ⟨rfl, BF.out⟩
          · have hnu0 : 0 < nu := by omega
            obtain ⟨gu, eu, -, -, -⟩ := R2.out.1.u.some_of (by rw [R2.out.2.1, ← NA.out.2.2.1]; omega)
            subst eu
            have GU := Lib.hid (UG.out gu rfl)
            have L1 : Hid ((xs.length + 1) * kSc.b ≤ 140737488355328) := Lib.hid (by rw [R1.out.2.1, ← NA.out.1]; show (na + 1) * 16 ≤ _; omega)
            have L2 : Hid ((us.length + 1) * kAm.b ≤ 140737488355328) := Lib.hid (by rw [R2.out.2.1, ← NA.out.2.2.1]; show (nu + 1) * 24 ≤ _; omega)
            have M1 : True := trivial
            have M2 : True := trivial
            go_wp2_with (first
              | (at_builtin; clear M1; refine app_moreK okSc (gg := wr.heap.size) rfl _ _ rfl rfl R2.out.1.a R2.out.1.be.size (78, 0) (by simp) rfl rfl L1.out ?_; intro v7 w7 h7 n7 k7; obtain ⟨a7, c7, e7⟩ := n7.slice
                 have el7 : (xs ++ [((78 : Int), (0 : Int))]).length = na + 1 := by rw [List.length_append, R1.out.2.1, ← NA.out.1]; rfl
                 rw [el7] at e7
                 subst e7
                 have F7 : Hid (Four W6 wa.heap.size wb.heap.size wu.heap.size cl ul (.slice (some ⟨ga, 0, none⟩) na ca) (.slice (some ⟨gb, 0, none⟩) nb cb) (.slice (some ⟨gu, 0, none⟩) nu cu) (.slice av nv cv) xs us w7 ∧ OwnR kSc W6.heap.size w7 (.slice a7 (na + 1) c7) (xs ++ [(78, 0)])) := Lib.hid ⟨R2.out.1.growA k7 NS.out.1 NS.out.2.1 NS.out.2.2.1 NS.out.2.2.2.1 h7, n7⟩
                 clear h7 n7 k7 el7)
              | (at_builtin; clear M2; refine app_moreK okAm (gg := w7.heap.size) rfl _ _ rfl rfl F7.out.1.u F7.out.1.sz ⟨⟨#[120]⟩, 0⟩ (by simp) rfl rfl L2.out ?_; intro v8 w8 h8 n8 k8; obtain ⟨a8, c8, e8⟩ := n8.slice
                 have el8 : (us ++ [(⟨⟨#[120]⟩, 0⟩ : Am)]).length = nu + 1 := by rw [List.length_append, R2.out.2.1, ← NA.out.2.2.1]; rfl
                 rw [el8] at e8
                 subst e8
                 have F8 : Hid ((Four W6 wa.heap.size wb.heap.size wu.heap.size cl ul (.slice (some ⟨ga, 0, none⟩) na ca) (.slice (some ⟨gb, 0, none⟩) nb cb) (.slice (some ⟨gu, 0, none⟩) nu cu) (.slice av nv cv) xs us w8) ∧ OwnR kSc W6.heap.size w8 (.slice a7 (na + 1) c7) (xs ++ [(78, 0)]) ∧ OwnR kAm wb.heap.size w8 (.slice a8 (nu + 1) c8) (us ++ [⟨⟨#[120]⟩, 0⟩])) := Lib.hid (by
                   obtain ⟨cur, -, -, hq, -⟩ := F7.out.1.u.parts
                   exact ⟨F7.out.1.growU k8 (Nat.le_trans NS.out.2.2.2.2 GU.out.1) GU.out.2 h8, F7.out.2.grownT k8 hq (by decide), n8⟩)
                 obtain ⟨p0, p1, p2, p3, p4, p5, p6⟩ := (P6.out w8 F8.out.1.be).1
                 clear h8 n8 k8 el8))
            refine (US.out w8 F8.out.1.be).mono ?_
            rintro e w9 ⟨aw, nw, cw, rfl, hw9, hb9⟩
            have X9 : Hid (Below W6.heap.size W6 w9) := Lib.hid (F8.out.1.be.trans (hb9.mono F8.out.1.be.size))
            have R9 : Hid (Row kSc w9 (.slice (some ⟨ga, 0, none⟩) na ca) xs ∧ Row kSc w9 (.slice (some ⟨gb, 0, none⟩) nb cb) cl ∧ Row kAm w9 (.slice av nv cv) ul ∧ OwnR kSc W6.heap.size w9 (.slice a7 (na + 1) c7) (xs ++ [(78, 0)]) ∧ OwnR kAm wb.heap.size w9 (.slice a8 (nu + 1) c8) (us ++ [⟨⟨#[120]⟩, 0⟩]) ∧ Row kAm w9 (.slice aw nw cw) ul ∧ Row kAm w9 (.slice (some ⟨gu, 0, none⟩) nu cu) us) := Lib.hid ⟨(F8.out.1.a.row okSc).below hb9, (F8.out.1.b.row okSc).below hb9, (F8.out.1.v.row okAm).below hb9, F8.out.2.1.below hb9, F8.out.2.2.below hb9, hw9.row okAm, (F8.out.1.u.row okAm).below hb9⟩
            clear hw9 hb9 p0 p1 p2 p3 p4 p5 p6
            obtain ⟨p0, p1, p2, p3, p4, p5, p6⟩ := (P6.out w9 X9.out).1
            go_wp2_with fail
            refine (OF.out w9 X9.out).mono ?_
            rintro e wd ⟨ax, nx, cx, rfl, hx9, hbd⟩
            have XD : Hid (Below W6.heap.size W6 wd) := Lib.hid (X9.out.trans (hbd.mono X9.out.size))
            have RD : Hid (Row kSc wd (.slice (some ⟨ga, 0, none⟩) na ca) xs ∧ Row kSc wd (.slice (some ⟨gb, 0, none⟩) nb cb) cl ∧ Row kAm wd (.slice av nv cv) ul ∧ Row kAm wd (.slice aw nw cw) ul ∧ Row kSc wd (.slice ax nx cx) cl ∧ Row kAm wd (.slice (some ⟨gu, 0, none⟩) nu cu) us) := Lib.hid ⟨R9.out.1.below hbd, R9.out.2.1.below hbd, R9.out.2.2.1.below hbd, R9.out.2.2.2.2.2.1.below hbd, hx9.row okSc, R9.out.2.2.2.2.2.2.below hbd⟩
            obtain ⟨gg, eg, -, -, -⟩ := R9.out.2.2.2.1.some_of (by simp)
            subst eg
            obtain ⟨gh, eh, -, -, -⟩ := R9.out.2.2.2.2.1.some_of (by simp)
            subst eh
            have LST : Hid (∀ W, Below wd.heap.size wd W → W.cell? ⟨gg, na * 2, none⟩ = some (.int .i64 78) ∧ W.cell? ⟨gh, nu * 2, none⟩ = some (.string ⟨#[120]⟩)) := Lib.hid fun W hb => by
              have q1 := ((R9.out.2.2.2.1.row okSc).below hbd).below hb
              have q2 := ((R9.out.2.2.2.2.1.row okAm).below hbd).below hb
              have ex : xs.length = na := by rw [R1.out.2.1, NA.out.1]
              have eu : us.length = nu := by rw [R2.out.2.1, NA.out.2.2.1]
              obtain ⟨b1, o1, e1, c1⟩ := q1.at na (by rw [List.length_append, ex]; simp)
              obtain ⟨b2, o2, e2, c2⟩ := q2.at nu (by rw [List.length_append, eu]; simp)
              simp only [Option.some.injEq, Addr.mk.injEq, and_true] at e1 e2
              obtain ⟨rfl, rfl⟩ := e1
              obtain ⟨rfl, rfl⟩ := e2
              have t1 := c1 0 (.int .i64 78) (by rw [List.getD_eq_getElem?_getD, List.getElem?_append_right (by omega), ex, Nat.sub_self]; rfl)
              have t2 := c2 0 (.string ⟨#[120]⟩) (by rw [List.getD_eq_getElem?_getD, List.getElem?_append_right (by omega), eu, Nat.sub_self]; rfl)
              rw [Nat.zero_add] at t1 t2
              exact ⟨t1, t2⟩
            clear hx9 hbd p0 p1 p2 p3 p4 p5 p6
            have enb : nb = na := by rw [NA.out.2.1, NA.out.1]
            have env : nv = nu := by rw [NA.out.2.2.2, NA.out.2.2.1]
            subst enb env
            go_wp2_with fail
            go_loopg [20] nb (fun g si wr => ∃ (i : Nat), i ≤ nb ∧ g = nb - i ∧ si = .int .i64 i ∧ wr = wd)
            case atStart => exact ⟨0, Nat.zero_le _, rfl, rfl, rfl⟩
            case round =>
              obtain ⟨i, hi, hg, rfl, rfl⟩ := hrel
              have G := Lib.hid hg
              clear hg
              by_cases hlt : i < nb
              · have hlt' : (i : Int) < (nb : Int) := by omega
                obtain ⟨b', off', e', hcc⟩ := RD.out.1.at i (by rw [R1.out.2.1, ← NA.out.1]; exact hlt)
                simp only [Option.some.injEq, Addr.mk.injEq, and_true] at e'
                obtain ⟨rfl, rfl⟩ := e'
                have c0 : wr.cell? ⟨ga, i * 2, none⟩ = some (.int .i64 77) := by
                  have := hcc 0 _ rfl
                  rw [Nat.zero_add] at this
                  rw [← R1.out.2.2 i hlt]
                  exact this
                clear hcc
                go_wp2_with fail
                go_roundg (nb - (i + 1))
                case measure => have := G.out; omega
                case rel => exact ⟨i + 1, by omega, rfl, by go_num, rfl⟩
              · clear G
                go_wp2_with fail
                go_loopg [21] nv (fun g si wq => ∃ (i : Nat), i ≤ nv ∧ g = nv - i ∧ si = .int .i64 i ∧ wq = wr)
                case atStart => exact ⟨0, Nat.zero_le _, rfl, rfl, rfl⟩
                case round =>
                  obtain ⟨j, hj, hg, rfl, rfl⟩ := hrel
                  have G := Lib.hid hg
                  clear hg
                  by_cases hlj : j < nv
                  · have hlj' : (j : Int) < (nv : Int) := by omega
                    obtain ⟨b', off', e', hcc⟩ := RD.out.2.2.2.2.2.at j (by rw [R2.out.2.1, ← NA.out.2.2.1]; exact hlj)
                    simp only [Option.some.injEq, Addr.mk.injEq, and_true] at e'
                    obtain ⟨rfl, rfl⟩ := e'
                    have c0 : wr.cell? ⟨gu, j * 2 + 1, none⟩ = some (.int .i64 (-5)) := by
                      have := hcc 1 _ rfl
                      rw [Nat.zero_add] at this
                      rw [← R2.out.2.2 j hlj]
                      exact this
                    clear hcc
                    go_wp2_with fail
                    go_roundg (nv - (j + 1))
                    case measure => have := G.out; omega
                    case rel => exact ⟨j + 1, by omega, rfl, by go_num, rfl⟩
                  · clear G
                    have ge : (ue == ue) = true := by simp
                    have SS := Lib.hid (sameScopes_yes _ _ cl wr RD.out.2.1 RD.out.2.2.2.2.1)
                    go_wp2_with fail
                    refine SS.out.mono ?_
                    rintro e we ⟨rfl, hbe⟩
                    have SM := Lib.hid (sameAmounts_yes _ _ ul we (RD.out.2.2.1.below hbe) (RD.out.2.2.2.1.below hbe))
                    have BE := Lib.hid hbe
                    clear hbe SS
                    go_wp2_with fail
                    refine SM.out.mono ?_
                    rintro e wf ⟨rfl, hbf⟩
                    have bf : Below wr.heap.size wr wf := BE.out.trans (hbf.mono BE.out.size)
                    obtain ⟨l1, l2⟩ := LST.out wf bf
                    have BF : Hid (Below w.heap.size w wf) := Lib.hid (KC.out wf (P6.out wf (XD.out.trans (bf.mono XD.out.size))).2.1).2.1
                    clear hbf bf SM
                    go_wp2_with fail
                    go_ret
                    exact ⟨rfl, BF.out⟩
end Go.Proofs.YtibjmmfodelhjaaDoor
