/-
  NxN, NxU, joined.
-/
import Derived.Test.YtehgnbgbmicheaaGreatDoorNxG1
import Derived.Test.YtehgnbgbmicheaaGreatDoorObE
section S0
namespace Go.Proofs.YtehgnbgbmicheaaGreatDoor
open Go.RowKit Go.Sort Go.Lib
namespace Nx
theorem am_fit {x : Am} (h : amB x = true) (hv : x.v ≤ 9223372036854775807) : x.fit := by
  unfold amB resB at h
  simp only [Bool.and_eq_true, decide_eq_true_iff] at h
  exact ⟨by omega, by omega, hv⟩
theorem nr_fit {l : List Am} (h : nrE l = 0) : ∀ x ∈ nrL l, x.fit := fun x hx => by
  have q := nr_told h
  exact am_fit (List.all_eq_true.1 (ams_parts q.1).2.1 x hx) (q.2 x hx)
/-- The object that Normal makes, where its lists can be brought into form. -/
noncomputable def nob (o : Ob) (LS : List (ByteArray × ByteArray)) (SP : List Pt) : Ob := ⟨o.p, o.n, LS, o.pr, o.dl, SP.map nrP, o.ver⟩
theorem nob_fit {o : Ob} {LS : List (ByteArray × ByteArray)} {SP : List Pt} (hf : o.Fit) (h1 : LS.Perm o.ls) (h2 : SP.Perm o.ps) (ho : ∀ p ∈ o.ps, okP p) : (nob o LS SP).Fit := by
  refine ⟨hf.s, fun x hx => hf.l x (h1.mem_iff.1 hx), fun x hx => ?_, hf.n⟩
  obtain ⟨p, hp, rfl⟩ := List.mem_map.1 hx
  have hp' := h2.mem_iff.1 hp
  exact ⟨(hf.p p hp').1, nr_fit (ho p hp').1, nr_fit (ho p hp').2⟩
theorem size_object : (Tryz.prog.info? 25).map (·.size) = some 7 := by kernel_rfl
theorem res_cell1 {fn : Func} {p u : Tmp} {ty : TypeId} (h : fn.results = #[.cell p ty, .tmp u]) (tmps : Array Value) (w : World) (ad : Addr) (x : Value)
    (hp : tmps.getD p undef = .pointer (some ad)) (hl : (loadVar ty ad).run Tryz.prog w = .ok x w) :
    (results fn tmps).run Tryz.prog w = .ok (.tuple #[x, tmps.getD u undef]) w := by
  have hp' : tmps[p]?.getD undef = .pointer (some ad) := by simpa using hp
  simp [results, h, hp', asAddr, hl, Result.andThen]
def zO : Array Value := #[.string ⟨#[]⟩, .string ⟨#[]⟩, .slice none 0 0, .int .i64 0, .int .i64 0, .slice none 0 0, .int .i64 0]
/-- What Normal answers. -/
def NoP (o : Ob) (w : World) (e : Ending) (w' : World) : Prop :=
  ∃ LS SP, LS.Perm o.ls ∧ (LS.Pairwise fun x y => ¬ y.1.data.toList < x.1.data.toList) ∧ SP.Perm o.ps ∧ (SP.Pairwise fun x y => ¬ y.n.data.toList < x.n.data.toList) ∧
    (((∀ p ∈ o.ps, okP p) ∧ (obR (nob o LS SP)).2 = 0 ∧ ∃ vl vp, e = .returned (.tuple #[(nob o LS SP).val vl vp, .int .i64 0]) ∧ ObO w.heap.size w' vl vp (nob o LS SP)) ∨
     ((∀ p ∈ o.ps, okP p) ∧ (obR (nob o LS SP)).2 ≠ 0 ∧ e = .returned (.tuple #[.agg zO, .int .i64 ((obR (nob o LS SP)).2 : Int)])) ∨
     ((¬ ∀ p ∈ o.ps, okP p) ∧ e = .returned (.tuple #[.agg zO, .int .i64 130]))) ∧ Below w.heap.size w w'
set_option maxHeartbeats 4000000 in
set_option maxRecDepth 100000 in
theorem normal_o (o : Ob) (u v : Value) (rs : List Pr) (w : World) (hm : L.HasM w) (hu : Row kLb w u o.ls) (pu : Pl u) (hv : Row kPt w v rs) (pv : Pl v) (hI : PtI w rs o.ps) (hfit : o.Fit) (z1 : o.ls.length * 32 ≤ 140737488355328) (z2 : o.ps.length * 64 ≤ 140737488355328)
    (hf : ∀ p ∈ o.ps, p.r.length * 24 ≤ 140737488355328 ∧ p.l.length * 24 ≤ 140737488355328) :
    Calls Tryz.prog 5 #[o.val u v] w (NoP o w) := by
  obtain ⟨ua, uc, rfl, _, _⟩ := hu.len
  obtain ⟨va, vc, rfl, _, _⟩ := hv.len
  obtain ⟨op, on, ols, opr, odl, ops, ov⟩ := o
  unfold Ob.val
  simp only at hu hI hfit z1 z2 hf ⊢
  obtain ⟨un, hun⟩ : ∃ x, x = ols.length := ⟨_, rfl⟩
  obtain ⟨vn, hvn⟩ : ∃ x, x = rs.length := ⟨_, rfl⟩
  rw [← hun] at hu pu ⊢
  rw [← hvn] at hv pv ⊢
  obtain ⟨b1, hb1⟩ : ∃ b, b = w.heap.size := ⟨_, rfl⟩
  obtain ⟨X1, hX1⟩ : ∃ X, X = w.alloc (.cells #[.string op, .string on, .slice ua un uc, .int .i64 opr, .int .i64 odl, .slice va vn vc, .int .i64 ov] 25) := ⟨_, rfl⟩
  obtain ⟨b2, hb2⟩ : ∃ b, b = X1.heap.size := ⟨_, rfl⟩
  obtain ⟨X2, hX2⟩ : ∃ X, X = X1.alloc (.cells zO 25) := ⟨_, rfl⟩
  have B1 : Below w.heap.size w X1 := by rw [hX1]; exact (Below.refl _ _).alloc (Nat.le_refl _) _
  have s1 : X1.heap.size = b1 + 1 := by rw [hX1, hb1]; simp
  have s2 : X2.heap.size = b2 + 1 := by rw [hX2, hb2]; simp
  have B2 : Below w.heap.size w X2 := by rw [hX2]; exact B1.alloc B1.size _
  have H1 : X2.heap[b1]? = some (.cells #[.string op, .string on, .slice ua un uc, .int .i64 opr, .int .i64 odl, .slice va vn vc, .int .i64 ov] 25 (0, 0)) := by
    rw [hX2, Below.heap_alloc _ _ _ (by omega), hX1, hb1]; exact heap_alloc_new _ _
  have H2 : X2.heap[b2]? = some (.cells zO 25 (0, 0)) := by rw [hX2, hb2]; exact heap_alloc_new _ _
  have S0 : Hid (Below w.heap.size w X2 ∧ X2.heap[b1]? = some (.cells #[.string op, .string on, .slice ua un uc, .int .i64 opr, .int .i64 odl, .slice va vn vc, .int .i64 ov] 25 (0, 0)) ∧ X2.heap[b2]? = some (.cells zO 25 (0, 0)) ∧ w.heap.size ≤ b1 ∧ b1 < b2 ∧ b2 < X2.heap.size) := Lib.hid ⟨B2, H1, H2, by omega, by omega, by omega⟩
  have x2 : X2.cell? ⟨b1, 2, none⟩ = some (.slice ua un uc) := by rw [cell_of_row _ _ _ _ _ _ H1]; rfl
  have CL := Lib.hid (cloneL (.slice ua un uc) ols X2 (hu.below B2) pu z1)
  have HV : Hid (Row kPt w (.slice va vn vc) rs ∧ Pl (.slice va vn vc) ∧ PtI w rs ops) := Lib.hid ⟨hv, pv, hI⟩
  have HZ : Hid (ols.length * 32 ≤ 140737488355328 ∧ rs.length * 64 ≤ 140737488355328 ∧ (∀ p ∈ ops, (p.r.length * 24 ≤ 140737488355328 ∧ ∀ x ∈ p.r, x.v ≤ 9223372036854775807) ∧ (p.l.length * 24 ≤ 140737488355328 ∧ ∀ x ∈ p.l, x.v ≤ 9223372036854775807))) := Lib.hid ⟨z1, by rw [hI.1]; exact z2, fun p hp => ⟨⟨(hf p hp).1, fun x hx => ((hfit.p p hp).2.1 x hx).2.2⟩, ⟨(hf p hp).2, fun x hx => ((hfit.p p hp).2.2 x hx).2.2⟩⟩⟩
  have HF := Lib.hid (And.intro hfit hm)
  have hb1' := hb1.symm; have hX1' := hX1.symm; have hb2' := hb2.symm
  have hX2' : X1.alloc (.cells #[.string ⟨#[]⟩, .string ⟨#[]⟩, .slice none 0 0, .int .i64 0, .int .i64 0, .slice none 0 0, .int .i64 0] 25) = X2 := hX2.symm
  clear hu pu hv pv hI hfit z1 z2 hf hun hvn hb1 hX1 hb2 hX2 B1 B2 s1 s2 H1 H2 hm
  go_enter Tryz.func5, Tryz.ntmps5
  go_wp2_with fail
  refine CL.out.mono ?_
  rintro e w3 ⟨a3, n3, c3, rfl, o3, d3⟩
  have S3 : Hid (Below w.heap.size w w3 ∧ w3.heap[b1]? = some (.cells #[.string op, .string on, .slice ua un uc, .int .i64 opr, .int .i64 odl, .slice va vn vc, .int .i64 ov] 25 (0, 0)) ∧ w3.heap[b2]? = some (.cells zO 25 (0, 0)) ∧ OwnR kLb X2.heap.size w3 (.slice a3 n3 c3) ols ∧ X2.heap.size ≤ w3.heap.size) := Lib.hid (by
    obtain ⟨q1, q2, q3, q4, q5, q6⟩ := S0.out
    exact ⟨q1.trans (d3.mono q1.size), by rw [d3.block b1 (by omega)]; exact q2, by rw [d3.block b2 q6]; exact q3, o3, d3.size⟩)
  clear o3 d3 CL hb1' hX1' hb2' hX2' x2
  have y2 : w3.cell? ⟨b1, 2, none⟩ = some (.slice ua un uc) := by rw [cell_of_row _ _ _ _ _ _ S3.out.2.1]; rfl
  have f2 : w3.frozen? ⟨b1, 2, none⟩ = false := frozen_row S3.out.2.1 2
  obtain ⟨X4, hX4⟩ : ∃ X, X = w3.setCell ⟨b1, 2, none⟩ (.slice a3 n3 c3) := ⟨_, rfl⟩
  have S4 : Hid (Below w.heap.size w X4 ∧ X4.heap[b1]? = some (.cells #[.string op, .string on, .slice a3 n3 c3, .int .i64 opr, .int .i64 odl, .slice va vn vc, .int .i64 ov] 25 (0, 0)) ∧ X4.heap[b2]? = some (.cells zO 25 (0, 0)) ∧ OwnR kLb X2.heap.size X4 (.slice a3 n3 c3) ols ∧ X2.heap.size ≤ X4.heap.size) := Lib.hid (by
    obtain ⟨q1, q2, q3, q4, q5⟩ := S3.out
    have hk := kept_set (F := fun y => y = b1) w3 ⟨b1, 2, none⟩ (.slice a3 n3 c3) rfl
    have hb := S0.out
    rw [hX4]
    exact ⟨q1.trans (hk.below q1.size (fun x hx => by omega)), by rw [heap_setCell_same _ _ _ _ _ _ q2]; rfl, by rw [hk.block b2 (lt_heap q3) (by omega)]; exact q3, q4.kept hk (fun k hk e => by have := (q4.lt k hk).1; omega), Nat.le_trans q5 hk.size⟩)
  have z2 : X4.cell? ⟨b1, 2, none⟩ = some (.slice a3 n3 c3) := by rw [cell_of_row _ _ _ _ _ _ S4.out.2.1]; rfl
  have SO := Lib.hid (sortL_all S4.out.2.2.2.1 (by have := HZ.out.1; omega))
  have hX4' := hX4.symm
  clear hX4
  go_wp2_with fail
  refine SO.out.mono ?_
  rintro e w5 ⟨rfl, D, hD, o5, d5⟩
  obtain ⟨LS, hLS⟩ : ∃ x, x = D.map Prod.fst := ⟨_, rfl⟩
  have S5 : Hid (Below w.heap.size w w5 ∧ w5.heap[b1]? = some (.cells #[.string op, .string on, .slice a3 n3 c3, .int .i64 opr, .int .i64 odl, .slice va vn vc, .int .i64 ov] 25 (0, 0)) ∧ w5.heap[b2]? = some (.cells zO 25 (0, 0)) ∧ OwnR kLb X2.heap.size w5 (.slice a3 n3 c3) LS ∧ X2.heap.size ≤ w5.heap.size ∧ LS.Perm ols ∧ (LS.Pairwise fun x y => ¬ y.1.data.toList < x.1.data.toList)) := Lib.hid (by
    obtain ⟨q1, q2, q3, q4, q5⟩ := S4.out
    have hb := S0.out
    rw [hLS]
    exact ⟨q1.trans (d5.mono hb.1.size), by rw [d5.block b1 (by omega)]; exact q2, by rw [d5.block b2 (by omega)]; exact q3, o5, Nat.le_trans q5 d5.size, std_perm hD, std_rise hD⟩)
  clear hD o5 d5 SO y2 f2 z2 hX4' hLS
  have y5 : w5.cell? ⟨b1, 5, none⟩ = some (.slice va vn vc) := by rw [cell_of_row _ _ _ _ _ _ S5.out.2.1]; rfl
  have NP := Lib.hid (nparts_any (.slice va vn vc) rs ops w5 (HV.out.1.below S5.out.1) HV.out.2.1 (HV.out.2.2.below S5.out.1) HZ.out.2.1 HZ.out.2.2)
  have ONZ : Hid ((#[.string ⟨#[]⟩, .string ⟨#[]⟩, .slice none 0 0, .int .i64 0, .int .i64 0, .slice none 0 0, .int .i64 0] : Array Value).all (·.oneCell') = true) := Lib.hid (by simp [Value.oneCell'])
  by_cases hok : ∀ p ∈ ops, okP p
  · have OK := Lib.hid hok
    clear hok
    go_wp2_with fail
    refine NP.out.mono ?_
    rintro e w6 ⟨SP, h1, h2, h3, h4, h5⟩
    obtain ⟨a6, n6, c6, us, rfl, o6, q6⟩ := h3 OK.out
    have S6 : Hid (SP.Perm ops ∧ (SP.Pairwise fun x y => ¬ y.n.data.toList < x.n.data.toList) ∧ Below w5.heap.size w5 w6 ∧ OwnR kPt w5.heap.size w6 (.slice a6 n6 c6) us ∧ Nst w5.heap.size w6 us (SP.map nrP)) := Lib.hid ⟨h1, h2, h5, o6, q6⟩
    have G1 : Hid (w6.heap[b1]? = some (.cells #[.string op, .string on, .slice a3 n3 c3, .int .i64 opr, .int .i64 odl, .slice va vn vc, .int .i64 ov] 25 (0, 0))) := Lib.hid (by rw [h5.block b1 (lt_heap S5.out.2.1)]; exact S5.out.2.1)
    have G6 : Hid (w6.heap[b2]? = some (.cells zO 25 (0, 0))) := Lib.hid (by rw [h5.block b2 (lt_heap S5.out.2.2.1)]; exact S5.out.2.2.1)
    clear h1 h2 h3 h4 h5 o6 q6 NP y5
    have t5 : w6.cell? ⟨b1, 5, none⟩ = some (.slice va vn vc) := by rw [cell_of_row _ _ _ _ _ _ G1.out]; rfl
    have f5 : w6.frozen? ⟨b1, 5, none⟩ = false := frozen_row G1.out 5
    obtain ⟨X7, hX7⟩ : ∃ X, X = w6.setCell ⟨b1, 5, none⟩ (.slice a6 n6 c6) := ⟨_, rfl⟩
    have S7 : Hid (Below w.heap.size w X7 ∧ X7.heap[b1]? = some (.cells #[.string op, .string on, .slice a3 n3 c3, .int .i64 opr, .int .i64 odl, .slice a6 n6 c6, .int .i64 ov] 25 (0, 0)) ∧ X7.heap[b2]? = some (.cells zO 25 (0, 0)) ∧ ObO X2.heap.size X7 (.slice a3 n3 c3) (.slice a6 n6 c6) ⟨op, on, LS, opr, odl, SP.map nrP, ov⟩) := Lib.hid (by
      obtain ⟨q1, q2, q3, q4, q5, _⟩ := S5.out
      obtain ⟨_, _, r3, r4, r5⟩ := S6.out
      have hk := kept_set (F := fun y => y = b1) w6 ⟨b1, 5, none⟩ (.slice a6 n6 c6) rfl
      have hb := S0.out
      have bw := q1.trans (r3.mono q1.size)
      have O6 : ObO X2.heap.size w6 (.slice a3 n3 c3) (.slice a6 n6 c6) ⟨op, on, LS, opr, odl, SP.map nrP, ov⟩ := ⟨us, q4.below r3, r4.mono q5, r5.1, fun k hk => ⟨(r5.2 k hk).1, (r5.2 k hk).2.1.mono q5, (r5.2 k hk).2.2.mono q5⟩⟩
      rw [hX7]
      exact ⟨bw.trans (hk.below bw.size (fun x hx => by omega)), by rw [heap_setCell_same _ _ _ _ _ _ G1.out]; rfl, by rw [hk.block b2 (lt_heap G6.out) (by omega)]; exact G6.out, O6.kept hk (fun k e => by omega)⟩)
    obtain ⟨y0, y1, y2, y3, y4, y5, y6⟩ : X7.cell? ⟨b1, 0, none⟩ = some (.string op) ∧ X7.cell? ⟨b1, 1, none⟩ = some (.string on) ∧ X7.cell? ⟨b1, 2, none⟩ = some (.slice a3 n3 c3) ∧ X7.cell? ⟨b1, 3, none⟩ = some (.int .i64 opr) ∧ X7.cell? ⟨b1, 4, none⟩ = some (.int .i64 odl) ∧ X7.cell? ⟨b1, 5, none⟩ = some (.slice a6 n6 c6) ∧ X7.cell? ⟨b1, 6, none⟩ = some (.int .i64 ov) :=
      ⟨by rw [cell_of_row _ _ _ _ _ _ S7.out.2.1]; rfl, by rw [cell_of_row _ _ _ _ _ _ S7.out.2.1]; rfl, by rw [cell_of_row _ _ _ _ _ _ S7.out.2.1]; rfl, by rw [cell_of_row _ _ _ _ _ _ S7.out.2.1]; rfl, by rw [cell_of_row _ _ _ _ _ _ S7.out.2.1]; rfl, by rw [cell_of_row _ _ _ _ _ _ S7.out.2.1]; rfl, by rw [cell_of_row _ _ _ _ _ _ S7.out.2.1]; rfl⟩
    obtain ⟨cd, hcd⟩ : ∃ x, x = (obR (nob ⟨op, on, ols, opr, odl, ops, ov⟩ LS SP)).2 := ⟨_, rfl⟩
    have VO : Hid (Calls Tryz.prog 7 #[.agg #[.string op, .string on, .slice a3 n3 c3, .int .i64 opr, .int .i64 odl, .slice a6 n6 c6, .int .i64 ov]] X7 fun e w' => e = .returned (.int .i64 (cd : Int)) ∧ Below X7.heap.size X7 w') := Lib.hid (by
      have q := valido_any (nob ⟨op, on, ols, opr, odl, ops, ov⟩ LS SP) (.slice a3 n3 c3) (.slice a6 n6 c6) X7 (HF.out.2.below S7.out.1) S7.out.2.2.2.obv (nob_fit HF.out.1 S5.out.2.2.2.2.2.1 S6.out.1 OK.out)
      rw [← hcd] at q
      exact q)
    have CD := Lib.hid hcd
    have hX7' := hX7.symm
    clear hX7 hcd
    go_wp2_with fail
    refine VO.out.mono ?_
    rintro e w8 ⟨rfl, d8⟩
    have D8 := Lib.hid d8
    have G8 : Hid (w8.heap[b2]? = some (.cells zO 25 (0, 0))) := Lib.hid (by rw [d8.block b2 (lt_heap S7.out.2.2.1)]; exact S7.out.2.2.1)
    have G9 : Hid (w8.heap[b1]? = some (.cells #[.string op, .string on, .slice a3 n3 c3, .int .i64 opr, .int .i64 odl, .slice a6 n6 c6, .int .i64 ov] 25 (0, 0))) := Lib.hid (by rw [d8.block b1 (lt_heap S7.out.2.1)]; exact S7.out.2.1)
    clear d8 y0 y1 y2 y3 y4 y5 y6 t5 f5 hX7' VO
    by_cases h0 : cd = 0
    · have g0 : ((cd : Int) != 0) = false := by rw [h0]; rfl
      have Z0 : Hid ((obR (nob ⟨op, on, ols, opr, odl, ops, ov⟩ LS SP)).2 = 0) := Lib.hid (by rw [← CD.out]; exact h0)
      clear h0
      obtain ⟨y0, y1, y2, y3, y4, y5, y6⟩ : w8.cell? ⟨b1, 0, none⟩ = some (.string op) ∧ w8.cell? ⟨b1, 1, none⟩ = some (.string on) ∧ w8.cell? ⟨b1, 2, none⟩ = some (.slice a3 n3 c3) ∧ w8.cell? ⟨b1, 3, none⟩ = some (.int .i64 opr) ∧ w8.cell? ⟨b1, 4, none⟩ = some (.int .i64 odl) ∧ w8.cell? ⟨b1, 5, none⟩ = some (.slice a6 n6 c6) ∧ w8.cell? ⟨b1, 6, none⟩ = some (.int .i64 ov) :=
        ⟨by rw [cell_of_row _ _ _ _ _ _ G9.out]; rfl, by rw [cell_of_row _ _ _ _ _ _ G9.out]; rfl, by rw [cell_of_row _ _ _ _ _ _ G9.out]; rfl, by rw [cell_of_row _ _ _ _ _ _ G9.out]; rfl, by rw [cell_of_row _ _ _ _ _ _ G9.out]; rfl, by rw [cell_of_row _ _ _ _ _ _ G9.out]; rfl, by rw [cell_of_row _ _ _ _ _ _ G9.out]; rfl⟩
      have ONN : Hid ((#[.string op, .string on, .slice a3 n3 c3, .int .i64 opr, .int .i64 odl, .slice a6 n6 c6, .int .i64 ov] : Array Value).all (·.oneCell') = true) := Lib.hid (by simp [Value.oneCell'])
      go_wp2_with (refine wpList_store_row rfl 25 (.tmp 2) (.tmp 32) rfl b2 #[.string op, .string on, .slice a3 n3 c3, .int .i64 opr, .int .i64 odl, .slice a6 n6 c6, .int .i64 ov] rfl rfl 25 #[.string ⟨#[]⟩, .string ⟨#[]⟩, .slice none 0 0, .int .i64 0, .int .i64 0, .slice none 0 0, .int .i64 0] G8.out size_object rfl ONN.out ?_)
      refine bodyPost_ret (res_cell1 rfl _ _ ⟨b2, 0, none⟩ (.agg #[.string op, .string on, .slice a3 n3 c3, .int .i64 opr, .int .i64 odl, .slice a6 n6 c6, .int .i64 ov]) rfl (run_loadVar_row _ b2 _ _ _ _ _ (setRow_heap _ _ _ _ _ _ G8.out) Tryz.underlying25 rfl size_object)) rfl ?_
      have bw : Below w.heap.size w w8 := S7.out.1.trans (D8.out.mono S7.out.1.size)
      refine ⟨LS, SP, S5.out.2.2.2.2.2.1, S5.out.2.2.2.2.2.2, S6.out.1, S6.out.2.1, Or.inl ⟨OK.out, Z0.out, .slice a3 n3 c3, .slice a6 n6 c6, rfl, ?_⟩, bw.trans ((kept_setRow _ _ _).below bw.size (fun x hx => by have := S0.out; omega))⟩
      exact ((S7.out.2.2.2.below D8.out).kept (kept_setRow _ _ _) (fun k e => by have := S0.out; omega)).mono S0.out.1.size
    · have g0 : ((cd : Int) != 0) = true := by rw [bne_iff_ne]; omega
      have Z0 : Hid ((obR (nob ⟨op, on, ols, opr, odl, ops, ov⟩ LS SP)).2 ≠ 0) := Lib.hid (by rw [← CD.out]; exact h0)
      clear h0
      go_wp2_with (refine wpList_store_row rfl 25 (.tmp 2) (.tmp 30) rfl b2 #[.string ⟨#[]⟩, .string ⟨#[]⟩, .slice none 0 0, .int .i64 0, .int .i64 0, .slice none 0 0, .int .i64 0] rfl rfl 25 #[.string ⟨#[]⟩, .string ⟨#[]⟩, .slice none 0 0, .int .i64 0, .int .i64 0, .slice none 0 0, .int .i64 0] G8.out size_object rfl ONZ.out ?_)
      refine bodyPost_ret (res_cell1 rfl _ _ ⟨b2, 0, none⟩ (.agg zO) rfl (run_loadVar_row _ b2 _ _ _ _ _ (setRow_heap _ _ _ _ _ _ G8.out) Tryz.underlying25 rfl size_object)) rfl ?_
      have bw : Below w.heap.size w w8 := S7.out.1.trans (D8.out.mono S7.out.1.size)
      exact ⟨LS, SP, S5.out.2.2.2.2.2.1, S5.out.2.2.2.2.2.2, S6.out.1, S6.out.2.1, Or.inr (Or.inl ⟨OK.out, Z0.out, by rw [← CD.out]; rfl⟩), bw.trans ((kept_setRow _ _ _).below bw.size (fun x hx => by have := S0.out; omega))⟩
  · have OK := Lib.hid hok
    clear hok
    go_wp2_with fail
    refine NP.out.mono ?_
    rintro e w6 ⟨SP, h1, h2, h3, h4, h5⟩
    have S6 := Lib.hid (And.intro h1 (And.intro h2 h5))
    have he := h4 OK.out
    subst he
    have G6 : Hid (w6.heap[b2]? = some (.cells zO 25 (0, 0))) := Lib.hid (by rw [h5.block b2 (lt_heap S5.out.2.2.1)]; exact S5.out.2.2.1)
    clear h1 h2 h3 h4 h5 NP y5
    go_wp2_with (refine wpList_store_row rfl 25 (.tmp 2) (.tmp 22) rfl b2 #[.string ⟨#[]⟩, .string ⟨#[]⟩, .slice none 0 0, .int .i64 0, .int .i64 0, .slice none 0 0, .int .i64 0] rfl rfl 25 #[.string ⟨#[]⟩, .string ⟨#[]⟩, .slice none 0 0, .int .i64 0, .int .i64 0, .slice none 0 0, .int .i64 0] G6.out size_object rfl ONZ.out ?_)
    refine bodyPost_ret (res_cell1 rfl _ _ ⟨b2, 0, none⟩ (.agg zO) rfl (run_loadVar_row _ b2 _ _ _ _ _ (setRow_heap _ _ _ _ _ _ G6.out) Tryz.underlying25 rfl size_object)) rfl ?_
    have bw : Below w.heap.size w w6 := S5.out.1.trans (S6.out.2.2.mono S5.out.1.size)
    exact ⟨LS, SP, S5.out.2.2.2.2.2.1, S5.out.2.2.2.2.2.2, S6.out.1, S6.out.2.1, Or.inr (Or.inr ⟨OK.out, rfl⟩), bw.trans ((kept_setRow _ _ _).below bw.size (fun x hx => by have := S0.out; omega))⟩
end Nx
end Go.Proofs.YtehgnbgbmicheaaGreatDoor
end S0

section S1
namespace Go.Proofs.YtehgnbgbmicheaaGreatDoor
open Go.RowKit Go.Sort Go.Lib
namespace Nx
/-- Of lists with unlike keys one order rises. -/
theorem perm_rise {α : Type} (key : α → List UInt8) : ∀ (X Y : List α), X.Perm Y → (X.Pairwise fun x y => ¬ key y < key x) → (Y.Pairwise fun x y => key x < key y) → X = Y
  | [], Y, hp, _, _ => (List.Perm.nil_eq hp)
  | x :: xs, [], hp, _, _ => absurd hp.length_eq (by simp)
  | x :: xs, y :: ys, hp, hx, hy => by
    obtain ⟨hx1, hx2⟩ := List.pairwise_cons.1 hx
    obtain ⟨hy1, hy2⟩ := List.pairwise_cons.1 hy
    have e : x = y := by
      rcases List.mem_cons.1 (hp.mem_iff.1 (List.mem_cons_self (a := x) (l := xs))) with h | h
      · exact h
      · have q := hy1 x h
        rcases List.mem_cons.1 (hp.mem_iff.2 (List.mem_cons_self (a := y) (l := ys))) with g | g
        · exact g.symm
        · exact absurd q (hx1 y g)
    subst e
    rw [perm_rise key xs ys hp.cons_inv hx2 hy2]
theorem pts_rise : ∀ (b : ByteArray) (l : List Pt), ptsUp b l = true → (l.Pairwise fun x y => x.n.data.toList < y.n.data.toList) ∧ ∀ x ∈ l, b.data.toList < x.n.data.toList
  | _, [], _ => ⟨List.Pairwise.nil, fun x hx => by simp at hx⟩
  | b, y :: r, h => by
    have h2 : (ptB b y && ptsUp y.n r) = true := h
    rw [Bool.and_eq_true] at h2
    obtain ⟨q1, q2⟩ := pts_rise y.n r h2.2
    have h3 : L.ltS b y.n = true := by
      have z := h2.1
      unfold ptB at z
      simp only [Bool.and_eq_true] at z
      exact z.1
    rw [ltS_eq] at h3
    have h4 := of_decide_eq_true h3
    refine ⟨List.pairwise_cons.2 ⟨q2, q1⟩, fun x hx => ?_⟩
    rcases List.mem_cons.1 hx with e | e
    · rw [e]; exact h4
    · exact List.lt_trans h4 (q2 x e)
theorem lbl_rise {l : List (ByteArray × ByteArray)} (h : L.validE l = 0) : l.Pairwise fun x y => x.1.data.toList < y.1.data.toList := by
  have hb : L.lblsB l = true := by
    unfold L.validE at h
    split at h
    · assumption
    · omega
  unfold L.lblsB at hb
  rw [Bool.and_eq_true, Bool.and_eq_true] at hb
  have h3 := hb.2.2
  unfold L.upB at h3
  have step : ∀ i, i + 1 < l.length → (l.getD i (⟨#[]⟩, ⟨#[]⟩)).1.data.toList < (l.getD (i + 1) (⟨#[]⟩, ⟨#[]⟩)).1.data.toList := by
    intro i hi
    have q := List.all_eq_true.1 h3 (i + 1) (List.mem_range.2 hi)
    simp only [Nat.add_sub_cancel] at q
    rw [ltS_eq, Bool.or_eq_true] at q
    rcases q with q | q
    · exact absurd (of_decide_eq_true q) (by omega)
    · exact of_decide_eq_true q
  have far : ∀ d i, i + d + 1 < l.length → (l.getD i (⟨#[]⟩, ⟨#[]⟩)).1.data.toList < (l.getD (i + d + 1) (⟨#[]⟩, ⟨#[]⟩)).1.data.toList := by
    intro d
    induction d with
    | zero => intro i hi; exact step i hi
    | succ d ih =>
      intro i hi
      exact List.lt_trans (ih i (by omega)) (step (i + d + 1) (by omega))
  refine List.pairwise_iff_getElem.2 (fun i j hi hj hij => ?_)
  have q := far (j - i - 1) i (by omega)
  rw [show i + (j - i - 1) + 1 = j by omega, getD_ge _ _ _ hi, getD_ge _ _ _ hj] at q
  exact q
theorem stands_of {o : Ob} (h : (obR o).2 = 0) : obS o = true := by
  unfold obR at h
  split at h
  · assumption
  · cases h
/-- Lists that are a valid object's, in whatever order and with its sums, are brought to that object. -/
theorem nob_same {o n : Ob} {LS : List (ByteArray × ByteArray)} {SP : List Pt} (hn : (obR n).2 = 0) (e1 : o.p = n.p ∧ o.n = n.n ∧ o.pr = n.pr ∧ o.dl = n.dl ∧ o.ver = n.ver) (h1 : LS.Perm n.ls) (r1 : LS.Pairwise fun x y => ¬ y.1.data.toList < x.1.data.toList)
    (h2 : (SP.map nrP).Perm n.ps) (r2 : SP.Pairwise fun x y => ¬ y.n.data.toList < x.n.data.toList) : nob o LS SP = n := by
  obtain ⟨_, q2, _, _, _, _, _, q8⟩ := obS_parts (stands_of hn)
  have a := perm_rise (fun x : ByteArray × ByteArray => x.1.data.toList) LS n.ls h1 r1 (lbl_rise q2)
  have b := perm_rise (fun x : Pt => x.n.data.toList) (SP.map nrP) n.ps h2 (List.pairwise_map.2 r2) (pts_rise _ _ q8).1
  obtain ⟨np, nn, nls, npr, ndl, nps, nv⟩ := n
  obtain ⟨e11, e12, e13, e14, e15⟩ := e1
  simp only at a b e11 e12 e13 e14 e15
  unfold nob
  rw [a, b, e11, e12, e13, e14, e15]
theorem nrP_self {p : Pt} (h1 : amsB p.r = true) (h2 : amsB p.l = true) (f1 : ∀ x ∈ p.r, x.v ≤ 9223372036854775807) (f2 : ∀ x ∈ p.l, x.v ≤ 9223372036854775807) : nrP p = p ∧ okP p := by
  have q1 := nr_valid h1 f1
  have q2 := nr_valid h2 f2
  refine ⟨?_, q1.1, q2.1⟩
  obtain ⟨pn, pr, pl⟩ := p
  unfold nrP
  simp only at q1 q2 ⊢
  rw [q1.2, q2.2]
theorem parts_self {o : Ob} (h : (obR o).2 = 0) (hf : o.Fit) : ∀ p ∈ o.ps, nrP p = p ∧ okP p := fun p hp => by
  obtain ⟨_, _, _, _, _, _, _, q8⟩ := obS_parts (stands_of h)
  obtain ⟨_, a1, a2⟩ := pts_good q8 p hp
  exact nrP_self a1 a2 (fun x hx => ((hf.p p hp).2.1 x hx).2.2) (fun x hx => ((hf.p p hp).2.2 x hx).2.2)
/-- Normal of a valid object is that object. -/
theorem nob_self {o : Ob} {LS : List (ByteArray × ByteArray)} {SP : List Pt} (h : (obR o).2 = 0) (hf : o.Fit) (h1 : LS.Perm o.ls) (r1 : LS.Pairwise fun x y => ¬ y.1.data.toList < x.1.data.toList) (h2 : SP.Perm o.ps) (r2 : SP.Pairwise fun x y => ¬ y.n.data.toList < x.n.data.toList) : nob o LS SP = o := by
  refine nob_same h ⟨rfl, rfl, rfl, rfl, rfl⟩ h1 r1 ?_ r2
  have e : SP.map nrP = SP := by
    conv => rhs; rw [← List.map_id SP]
    exact List.map_congr_left fun p hp => (parts_self h hf p (h2.mem_iff.1 hp)).1
  rw [e]
  exact h2
end Nx
end Go.Proofs.YtehgnbgbmicheaaGreatDoor
end S1
