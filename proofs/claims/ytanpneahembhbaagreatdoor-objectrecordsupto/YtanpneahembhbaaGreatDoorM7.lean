/-
  LawRecords, joined.
-/
import Derived.Test.YtanpneahembhbaaGreatDoorM4
import Derived.Test.YtanpneahembhbaaGreatDoorM5
import Derived.Test.YtanpneahembhbaaGreatDoorM6
section S0
namespace Go.Proofs.YtanpneahembhbaaGreatDoor
open Go.RowKit
structure RC (w : World) (b1 b2 : Nat) (cq cl cb : Array Value) (W : World) : Prop where
  q : W.heap[w.heap.size]? = some (.cells cq 26 (0, 0))
  l : W.heap[b1]? = some (.cells cl 29 (0, 0))
  b : W.heap[b2]? = some (.cells cb 31 (0, 0))
  be : Below w.heap.size w W
theorem RC.below {w W W' : World} {b1 b2 : Nat} {cq cl cb : Array Value} (h : RC w b1 b2 cq cl cb W) (hb : Below W.heap.size W W') : RC w b1 b2 cq cl cb W' :=
  ⟨by rw [hb.block _ (lt_of_some h.q)]; exact h.q, by rw [hb.block _ (lt_of_some h.l)]; exact h.l, by rw [hb.block _ (lt_of_some h.b)]; exact h.b, h.be.trans (hb.mono h.be.size)⟩
structure BX (b : Nat) (c : Array Value) (T : TypeId) (W : World) : Prop where
  o : W.heap[b]? = some (.cells c T (0, 0))
theorem BX.below {b : Nat} {c : Array Value} {T : TypeId} {W W' : World} (h : BX b c T W) (hb : Below W.heap.size W W') : BX b c T W' := ⟨by rw [hb.block _ (lt_of_some h.o)]; exact h.o⟩
structure RV {α : Type} (K : Kd α) (v : Value) (l : List α) (W : World) : Prop where
  r : Row K W v l
theorem RV.below {α : Type} {K : Kd α} {v : Value} {l : List α} {W W' : World} (h : RV K v l W) (hb : Below W.heap.size W W') : RV K v l W' := ⟨h.r.below hb⟩
theorem row_pre {α : Type} {K : Kd α} {W : World} {a : Option Addr} {c : Nat} {xs : List α} {y : α} (H : Row K W (.slice a (xs.length + 1) c) (xs ++ [y])) : Row K W (.slice a xs.length c) xs := by
  obtain ⟨a', c', e, h1, h2, h3, h4⟩ := H
  simp only [Value.slice.injEq] at e
  obtain ⟨rfl, _, rfl⟩ := e
  rw [List.length_append] at h1
  refine ⟨a, c, rfl, by simp at h1; omega, h2, h3, fun k hk => ?_⟩
  obtain ⟨b, off, ea, hc⟩ := h4 k (by simp; omega)
  refine ⟨b, off, ea, fun j z hz => hc j z ?_⟩
  have : (xs ++ [y]).getD k K.z = xs.getD k K.z := by simp [List.getD_eq_getElem?_getD, List.getElem?_append_left hk]
  rw [this]; exact hz
set_option maxHeartbeats 64000000 in
set_option maxRecDepth 100000 in
theorem objectRecords_walk (q : Qt) (qv : Value) (l : Lr) (lv : Value) (b : Bd) (w : World) (hm : L.HasM w)
    (hq : Row kAm w qv q.h ∧ q.Fit ∧ q.p.size ≤ 1048576 ∧ q.h.length ≤ 2000000) (hl : Row kRl w lv l.rs ∧ l.Fit ∧ l.p.size ≤ 1048576 ∧ l.rs.length ≤ 2000000) (hb : b.Fit ∧ b.p.size ≤ 1048576) :
    Calls Tryz.prog 3 #[q.val qv, l.val lv, b.val] w fun e w' => e = .returned (.bool true) ∧ Below w.heap.size w w' := by
  obtain ⟨qa, qc, rfl, _, hq9⟩ := hq.1.len
  obtain ⟨ra, rc, rfl, _, _⟩ := hl.1.len
  have HM := Lib.hid hm
  have H_Q := Lib.hid hq
  have H_L := Lib.hid hl
  have H_B := Lib.hid hb
  obtain ⟨T1, N1, e1⟩ : ∃ T N, qtR q = (T, N) := ⟨_, _, rfl⟩
  obtain ⟨T2, N2, e2⟩ : ∃ T N, lrR l = (T, N) := ⟨_, _, rfl⟩
  obtain ⟨T3, N3, e3⟩ : ∃ T N, bdR b = (T, N) := ⟨_, _, rfl⟩
  have EE := Lib.hid (And.intro e1 (And.intro e2 e3))
  have NL : Hid (q.h.length ≤ 2000000) := Lib.hid hq.2.2.2
  clear hm hq hl hb e1 e2 e3 hq9
  unfold Qt.val Lr.val Bd.val
  obtain ⟨X1, hX1⟩ : ∃ X, X = w.alloc (.cells #[.string q.p, .string q.n, .int .i64 q.k, .int .i64 q.a, .slice qa q.h.length qc] 26) := ⟨_, rfl⟩
  obtain ⟨X2, hX2⟩ : ∃ X, X = X1.alloc (.cells #[.string l.p, .string l.n, .slice ra l.rs.length rc] 29) := ⟨_, rfl⟩
  obtain ⟨X3, hX3⟩ : ∃ X, X = X2.alloc (.cells #[.string b.p, .string b.n, .string b.s, .int .i64 b.v] 31) := ⟨_, rfl⟩
  have s1 : X1.heap.size = w.heap.size + 1 := by rw [hX1]; simp
  have B1 : Below w.heap.size w X1 := by rw [hX1]; exact (Below.refl _ _).alloc (Nat.le_refl _) _
  have r1 : X1.heap[w.heap.size]? = some (.cells #[.string q.p, .string q.n, .int .i64 q.k, .int .i64 q.a, .slice qa q.h.length qc] 26 (0, 0)) := by rw [hX1, heap_alloc_new]
  have s2 : X2.heap.size = w.heap.size + 2 := by rw [hX2]; simp [s1]
  have B2 : Below X1.heap.size X1 X2 := by rw [hX2]; exact (Below.refl _ _).alloc (Nat.le_refl _) _
  have r2 : X2.heap[X1.heap.size]? = some (.cells #[.string l.p, .string l.n, .slice ra l.rs.length rc] 29 (0, 0)) := by rw [hX2, heap_alloc_new]
  have s3 : X3.heap.size = w.heap.size + 3 := by rw [hX3]; simp [s2]
  have B3 : Below X2.heap.size X2 X3 := by rw [hX3]; exact (Below.refl _ _).alloc (Nat.le_refl _) _
  have r3 : X3.heap[X2.heap.size]? = some (.cells #[.string b.p, .string b.n, .string b.s, .int .i64 b.v] 31 (0, 0)) := by rw [hX3, heap_alloc_new]
  have BB : Below w.heap.size w X3 := (B1.trans (B2.mono B1.size)).trans (B3.mono (by omega))
  have lt1 := lt_of_some r1
  have lt2 := lt_of_some r2
  obtain ⟨b1, hb1⟩ : ∃ b1, b1 = w.heap.size + 1 := ⟨_, rfl⟩
  obtain ⟨b2, hb2⟩ : ∃ b2, b2 = b1 + 1 := ⟨_, rfl⟩
  have K : Hid (RC w b1 b2 #[.string q.p, .string q.n, .int .i64 q.k, .int .i64 q.a, .slice qa q.h.length qc] #[.string l.p, .string l.n, .slice ra l.rs.length rc] #[.string b.p, .string b.n, .string b.s, .int .i64 b.v] X3) := Lib.hid ⟨by rw [B3.block _ (by omega), B2.block _ lt1]; exact r1, by rw [hb1, ← s1, B3.block _ lt2]; exact r2, by rw [show b2 = X2.heap.size by omega]; exact r3, BB⟩
  have EX : Hid (X3 = (((w.alloc (.cells #[.string q.p, .string q.n, .int .i64 q.k, .int .i64 q.a, .slice qa q.h.length qc] 26)).alloc (.cells #[.string l.p, .string l.n, .slice ra l.rs.length rc] 29)).alloc (.cells #[.string b.p, .string b.n, .string b.s, .int .i64 b.v] 31))) := Lib.hid (by rw [hX3, hX2, hX1])
  have HBS := Lib.hid (And.intro hb1 hb2)
  clear hX1 hX2 hX3 s1 s2 s3 B1 B2 B3 r1 r2 r3 BB lt1 lt2 hb1 hb2
  go_enter Tryz.func3, Tryz.ntmps3
  go_wp2_with fail
  rw [← EX.out]
  clear EX
  rw [← HBS.out.1, ← HBS.out.2]
  clear HBS
  refine (fixed_any sameObject_yes X3 (HM.out.below K.out.be)).mono ?_
  rintro e W0 ⟨rfl, hb⟩
  have K2 := Lib.hid (K.out.below hb)
  clear K
  have K := K2
  clear K2
  clear hb
  have pc : ∀ j y, (#[.string q.p, .string q.n, .int .i64 q.k, .int .i64 q.a, .slice qa q.h.length qc] : Array Value)[j]? = some y → W0.cell? ⟨w.heap.size, j, none⟩ = some y := fun j y hy => by rw [cell_of_row W0 w.heap.size j _ _ _ K.out.q]; exact hy
  have p0 := pc 0 _ rfl
  have p1 := pc 1 _ rfl
  have p2 := pc 2 _ rfl
  have p3 := pc 3 _ rfl
  have p4 := pc 4 _ rfl
  clear pc
  have OA := Lib.hid (ownQuota_any q _ W0 (H_Q.out.1.below K.out.be) (by have := NL.out; omega))
  unfold Qt.val at OA
  go_wp2_with fail
  refine OA.out.mono ?_
  rintro e W1 ⟨vq, rfl, hv, hb⟩
  clear OA p0 p1 p2 p3 p4
  have K2 := Lib.hid (K.out.below hb)
  clear K
  have K := K2
  clear K2
  clear hb
  obtain ⟨pa, pc, rfl⟩ := hv.slice
  obtain ⟨Y1, hY⟩ : ∃ Y, Y = W1.alloc (.cells #[.string q.p, .string q.n, .int .i64 q.k, .int .i64 q.a, .slice pa q.h.length pc] 26) := ⟨_, rfl⟩
  obtain ⟨bp, hbp⟩ : ∃ b, b = W1.heap.size := ⟨_, rfl⟩
  have AY : Below W1.heap.size W1 Y1 := by rw [hY]; exact (Below.refl _ _).alloc (Nat.le_refl _) _
  have PB : Hid (BX bp #[.string q.p, .string q.n, .int .i64 q.k, .int .i64 q.a, .slice pa q.h.length pc] 26 Y1) := Lib.hid ⟨by rw [hY, hbp, heap_alloc_new]⟩
  have PV : Hid (RV kAm (.slice pa q.h.length pc) q.h Y1) := Lib.hid ⟨(hv.row okAm).below AY⟩
  have K2 := Lib.hid (K.out.below AY)
  clear K
  have K := K2
  clear K2
  have hY2 := hY.symm
  have hbp2 := hbp.symm
  clear hY hbp AY hv
  have pc : ∀ j y, (#[.string l.p, .string l.n, .slice ra l.rs.length rc] : Array Value)[j]? = some y → Y1.cell? ⟨b1, j, none⟩ = some y := fun j y hy => by rw [cell_of_row Y1 b1 j _ _ _ K.out.l]; exact hy
  have p0 := pc 0 _ rfl
  have p1 := pc 1 _ rfl
  have p2 := pc 2 _ rfl
  clear pc
  have OA := Lib.hid (ownLimit_any l _ Y1 (H_L.out.1.below K.out.be) (by have := H_L.out.2.2.2; omega))
  unfold Lr.val at OA
  go_wp2_with fail
  clear hY2 hbp2
  refine OA.out.mono ?_
  rintro e W2 ⟨vq, rfl, hv, hb⟩
  clear OA p0 p1 p2
  have K2 := Lib.hid (K.out.below hb)
  have PB2 := Lib.hid (PB.out.below hb)
  have PV2 := Lib.hid (PV.out.below hb)
  clear K PB PV
  have K := K2
  have PB := PB2
  have PV := PV2
  clear K2 PB2 PV2
  clear hb
  obtain ⟨ka, kc, rfl⟩ := hv.slice
  obtain ⟨Y2, hY⟩ : ∃ Y, Y = W2.alloc (.cells #[.string l.p, .string l.n, .slice ka l.rs.length kc] 29) := ⟨_, rfl⟩
  obtain ⟨bk, hbk⟩ : ∃ b, b = W2.heap.size := ⟨_, rfl⟩
  have AY : Below W2.heap.size W2 Y2 := by rw [hY]; exact (Below.refl _ _).alloc (Nat.le_refl _) _
  have KB : Hid (BX bk #[.string l.p, .string l.n, .slice ka l.rs.length kc] 29 Y2) := Lib.hid ⟨by rw [hY, hbk, heap_alloc_new]⟩
  have KV : Hid (RV kRl (.slice ka l.rs.length kc) l.rs Y2) := Lib.hid ⟨(hv.row okRl).below AY⟩
  have K2 := Lib.hid (K.out.below AY)
  have PB2 := Lib.hid (PB.out.below AY)
  have PV2 := Lib.hid (PV.out.below AY)
  clear K PB PV
  have K := K2
  have PB := PB2
  have PV := PV2
  clear K2 PB2 PV2
  have hY2 := hY.symm
  have hbk2 := hbk.symm
  clear hY hbk AY hv
  have p4 : Y2.cell? ⟨w.heap.size, 4, none⟩ = some (.slice qa q.h.length qc) := by rw [cell_of_row Y2 _ 4 _ _ _ K.out.q]; rfl
  have OA := Lib.hid (ownAmounts_any (.slice qa q.h.length qc) q.h Y2 (H_Q.out.1.below K.out.be) (by have := NL.out; omega))
  go_wp2_with fail
  clear hY2 hbk2
  refine OA.out.mono ?_
  rintro e W3 ⟨ha, hn, hc, rfl, hv, hb⟩
  clear OA p4
  have LN : Hid ((q.h.length + 1) * kAm.b ≤ 140737488355328) := Lib.hid (by have := NL.out; show (q.h.length + 1) * 24 ≤ 140737488355328; omega)
  have HO := Lib.hid hv
  have HB := Lib.hid hb
  clear hb hv
  go_wp2_with (at_builtin; refine app_rowB okAm (gg := W3.heap.size) rfl _ _ rfl rfl HO.out HB.out.size ⟨⟨#[109, 97, 114, 107]⟩, 0⟩ ?hgg rfl rfl LN.out ?_)
  case hgg => simp
  intro v' W4 h1 h2
  have bel : Below Y2.heap.size Y2 W4 := HB.out.trans (grown_belowR h2 HO.out HB.out.size)
  obtain ⟨a2, c2, hv2⟩ := h1.slice
  have hv3 : v' = .slice a2 (q.h.length + 1) c2 := by rw [hv2, List.length_append]; rfl
  clear hv2
  subst hv3
  have HV : Hid (RV kAm (.slice a2 (q.h.length + 1) c2) (q.h ++ [⟨⟨#[109, 97, 114, 107]⟩, 0⟩]) W4) := Lib.hid ⟨h1.row okAm⟩
  have i2 : (q.h.length : Int) ≤ (c2 : Int) := by
    obtain ⟨a9, c9, e9, h9, _⟩ := (h1.row okAm).len
    simp only [Value.slice.injEq] at e9
    obtain ⟨_, _, rfl⟩ := e9
    rw [List.length_append] at h9
    omega
  have K2 := Lib.hid (K.out.below bel)
  have PB2 := Lib.hid (PB.out.below bel)
  have PV2 := Lib.hid (PV.out.below bel)
  have KB2 := Lib.hid (KB.out.below bel)
  have KV2 := Lib.hid (KV.out.below bel)
  clear K PB PV KB KV
  have K := K2
  have PB := PB2
  have PV := PV2
  have KB := KB2
  have KV := KV2
  clear K2 PB2 PV2 KB2 KV2
  clear bel h1 h2 HO HB LN
  have pc : ∀ j y, (#[.string q.p, .string q.n, .int .i64 q.k, .int .i64 q.a, .slice qa q.h.length qc] : Array Value)[j]? = some y → W4.cell? ⟨w.heap.size, j, none⟩ = some y := fun j y hy => by rw [cell_of_row W4 w.heap.size j _ _ _ K.out.q]; exact hy
  have p0 := pc 0 _ rfl
  have p1 := pc 1 _ rfl
  have p2 := pc 2 _ rfl
  have p3 := pc 3 _ rfl
  have p4 := pc 4 _ rfl
  clear pc
  obtain ⟨Y5, hY5⟩ : ∃ Y, Y = W4.alloc (.cells #[.string q.p, .string q.n, .int .i64 q.k, .int .i64 q.a, .slice qa q.h.length qc] 26) := ⟨_, rfl⟩
  obtain ⟨bi, hbi⟩ : ∃ b, b = W4.heap.size := ⟨_, rfl⟩
  have A5 : Below W4.heap.size W4 Y5 := by rw [hY5]; exact (Below.refl _ _).alloc (Nat.le_refl _) _
  have O5 : Y5.heap[bi]? = some (.cells #[.string q.p, .string q.n, .int .i64 q.k, .int .i64 q.a, .slice qa q.h.length qc] 26 (0, 0)) := by rw [hY5, hbi, heap_alloc_new]
  obtain ⟨Y6, hY6⟩ : ∃ Y, Y = Y5.setCell ⟨bi, 4, none⟩ (.slice a2 q.h.length c2) := ⟨_, rfl⟩
  have k6 : Kept (fun k => k = bi) Y5 Y6 := by rw [hY6]; exact kept_set _ _ _ rfl
  have A6 : Below W4.heap.size W4 Y6 := A5.trans (k6.below (by have := A5.size; omega) (fun x hx => by omega))
  have IB : Hid (BX bi #[.string q.p, .string q.n, .int .i64 q.k, .int .i64 q.a, .slice a2 q.h.length c2] 26 Y6) := Lib.hid ⟨by rw [hY6, Go.heap_setCell_same Y5 bi 4 _ _ _ O5]; rfl⟩
  have f5 : Y5.frozen? ⟨bi, 4, none⟩ = false := frozen_of_row _ _ _ _ _ O5
  have m4 : Y5.cell? ⟨bi, 4, none⟩ = some (.slice qa q.h.length qc) := by rw [cell_of_row Y5 bi 4 _ _ _ O5]; rfl
  have z4 : Y5.cell? ⟨w.heap.size, 4, none⟩ = some (.slice qa q.h.length qc) := by rw [A5.cell (block_lt_of_cell p4)]; exact p4
  have hY52 := hY5.symm
  have hbi2 := hbi.symm
  have hY62 := hY6.symm
  have K2 := Lib.hid (K.out.below A6)
  have PB2 := Lib.hid (PB.out.below A6)
  have PV2 := Lib.hid (PV.out.below A6)
  have KB2 := Lib.hid (KB.out.below A6)
  have KV2 := Lib.hid (KV.out.below A6)
  have HV2 := Lib.hid (HV.out.below A6)
  clear K PB PV KB KV HV
  have K := K2
  have PB := PB2
  have PV := PV2
  have KB := KB2
  have KV := KV2
  have HV := HV2
  clear K2 PB2 PV2 KB2 KV2 HV2
  have IV : Hid (RV kAm (.slice a2 q.h.length c2) q.h Y6) := Lib.hid ⟨row_pre HV.out.r⟩
  clear hY5 hbi hY6 k6 A5 A6 O5
  have sc : ∀ j y, (#[.string q.p, .string q.n, .int .i64 q.k, .int .i64 q.a, .slice a2 q.h.length c2] : Array Value)[j]? = some y → Y6.cell? ⟨bi, j, none⟩ = some y := fun j y hy => by rw [cell_of_row Y6 bi j _ _ _ IB.out.o]; exact hy
  have s0 := sc 0 _ rfl
  have s1 := sc 1 _ rfl
  have s2 := sc 2 _ rfl
  have s3 := sc 3 _ rfl
  have s4 := sc 4 _ rfl
  clear sc
  have EN := Lib.hid (encodeQ_any q _ Y6 (HM.out.below K.out.be) IV.out.r H_Q.out.2.1)
  rw [EE.out.1] at EN
  unfold Qt.val at EN
  simp only at EN
  go_wp2_with fail
  clear hY52 hbi2 hY62 f5 m4 z4 p0 p1 p2 p3 p4
  refine EN.out.mono ?_
  rintro e V1 ⟨rfl, hb⟩
  clear EN s0 s1 s2 s3 s4
  have K2 := Lib.hid (K.out.below hb)
  have PB2 := Lib.hid (PB.out.below hb)
  have PV2 := Lib.hid (PV.out.below hb)
  have KB2 := Lib.hid (KB.out.below hb)
  have KV2 := Lib.hid (KV.out.below hb)
  have HV2 := Lib.hid (HV.out.below hb)
  have IB2 := Lib.hid (IB.out.below hb)
  have IV2 := Lib.hid (IV.out.below hb)
  clear K PB PV KB KV HV IB IV
  have K := K2
  have PB := PB2
  have PV := PV2
  have KB := KB2
  have KV := KV2
  have HV := HV2
  have IB := IB2
  have IV := IV2
  clear K2 PB2 PV2 KB2 KV2 HV2 IB2 IV2
  clear hb
  have sc : ∀ j y, (#[.string q.p, .string q.n, .int .i64 q.k, .int .i64 q.a, .slice pa q.h.length pc] : Array Value)[j]? = some y → V1.cell? ⟨bp, j, none⟩ = some y := fun j y hy => by rw [cell_of_row V1 bp j _ _ _ PB.out.o]; exact hy
  have s0 := sc 0 _ rfl
  have s1 := sc 1 _ rfl
  have s2 := sc 2 _ rfl
  have s3 := sc 3 _ rfl
  have s4 := sc 4 _ rfl
  clear sc
  have EN := Lib.hid (refEncQ_any q _ V1 PV.out.r H_Q.out.2.1 H_Q.out.2.2.1)
  rw [EE.out.1] at EN
  unfold Qt.val at EN
  simp only at EN
  go_wp2_with fail
  skip
  refine EN.out.mono ?_
  rintro e V2 ⟨rfl, hb⟩
  clear EN s0 s1 s2 s3 s4
  have K2 := Lib.hid (K.out.below hb)
  have PB2 := Lib.hid (PB.out.below hb)
  have PV2 := Lib.hid (PV.out.below hb)
  have KB2 := Lib.hid (KB.out.below hb)
  have KV2 := Lib.hid (KV.out.below hb)
  have HV2 := Lib.hid (HV.out.below hb)
  have IB2 := Lib.hid (IB.out.below hb)
  have IV2 := Lib.hid (IV.out.below hb)
  clear K PB PV KB KV HV IB IV
  have K := K2
  have PB := PB2
  have PV := PV2
  have KB := KB2
  have KV := KV2
  have HV := HV2
  have IB := IB2
  have IV := IV2
  clear K2 PB2 PV2 KB2 KV2 HV2 IB2 IV2
  clear hb
  have sc : ∀ j y, (#[.string l.p, .string l.n, .slice ra l.rs.length rc] : Array Value)[j]? = some y → V2.cell? ⟨b1, j, none⟩ = some y := fun j y hy => by rw [cell_of_row V2 b1 j _ _ _ K.out.l]; exact hy
  have s0 := sc 0 _ rfl
  have s1 := sc 1 _ rfl
  have s2 := sc 2 _ rfl
  clear sc
  have EN := Lib.hid (encodeL_any l _ V2 (HM.out.below K.out.be) (H_L.out.1.below K.out.be) H_L.out.2.1)
  rw [EE.out.2.1] at EN
  unfold Lr.val at EN
  simp only at EN
  go_wp2_with fail
  skip
  refine EN.out.mono ?_
  rintro e V3 ⟨rfl, hb⟩
  clear EN s0 s1 s2
  have K2 := Lib.hid (K.out.below hb)
  have PB2 := Lib.hid (PB.out.below hb)
  have PV2 := Lib.hid (PV.out.below hb)
  have KB2 := Lib.hid (KB.out.below hb)
  have KV2 := Lib.hid (KV.out.below hb)
  have HV2 := Lib.hid (HV.out.below hb)
  have IB2 := Lib.hid (IB.out.below hb)
  have IV2 := Lib.hid (IV.out.below hb)
  clear K PB PV KB KV HV IB IV
  have K := K2
  have PB := PB2
  have PV := PV2
  have KB := KB2
  have KV := KV2
  have HV := HV2
  have IB := IB2
  have IV := IV2
  clear K2 PB2 PV2 KB2 KV2 HV2 IB2 IV2
  clear hb
  have sc : ∀ j y, (#[.string l.p, .string l.n, .slice ka l.rs.length kc] : Array Value)[j]? = some y → V3.cell? ⟨bk, j, none⟩ = some y := fun j y hy => by rw [cell_of_row V3 bk j _ _ _ KB.out.o]; exact hy
  have s0 := sc 0 _ rfl
  have s1 := sc 1 _ rfl
  have s2 := sc 2 _ rfl
  clear sc
  have EN := Lib.hid (refEncL_any l _ V3 KV.out.r H_L.out.2.1 H_L.out.2.2.1)
  rw [EE.out.2.1] at EN
  unfold Lr.val at EN
  simp only at EN
  go_wp2_with fail
  skip
  refine EN.out.mono ?_
  rintro e V4 ⟨rfl, hb⟩
  clear EN s0 s1 s2
  have K2 := Lib.hid (K.out.below hb)
  have PB2 := Lib.hid (PB.out.below hb)
  have PV2 := Lib.hid (PV.out.below hb)
  have KB2 := Lib.hid (KB.out.below hb)
  have KV2 := Lib.hid (KV.out.below hb)
  have HV2 := Lib.hid (HV.out.below hb)
  have IB2 := Lib.hid (IB.out.below hb)
  have IV2 := Lib.hid (IV.out.below hb)
  clear K PB PV KB KV HV IB IV
  have K := K2
  have PB := PB2
  have PV := PV2
  have KB := KB2
  have KV := KV2
  have HV := HV2
  have IB := IB2
  have IV := IV2
  clear K2 PB2 PV2 KB2 KV2 HV2 IB2 IV2
  clear hb
  have sc : ∀ j y, (#[.string b.p, .string b.n, .string b.s, .int .i64 b.v] : Array Value)[j]? = some y → V4.cell? ⟨b2, j, none⟩ = some y := fun j y hy => by rw [cell_of_row V4 b2 j _ _ _ K.out.b]; exact hy
  have s0 := sc 0 _ rfl
  have s1 := sc 1 _ rfl
  have s2 := sc 2 _ rfl
  have s3 := sc 3 _ rfl
  clear sc
  have EN := Lib.hid (encodeB_any b V4 (HM.out.below K.out.be) H_B.out.1)
  rw [EE.out.2.2] at EN
  unfold Bd.val at EN
  simp only at EN
  go_wp2_with fail
  skip
  refine EN.out.mono ?_
  rintro e V5 ⟨rfl, hb⟩
  clear EN s0 s1 s2 s3
  have K2 := Lib.hid (K.out.below hb)
  have PB2 := Lib.hid (PB.out.below hb)
  have PV2 := Lib.hid (PV.out.below hb)
  have KB2 := Lib.hid (KB.out.below hb)
  have KV2 := Lib.hid (KV.out.below hb)
  have HV2 := Lib.hid (HV.out.below hb)
  have IB2 := Lib.hid (IB.out.below hb)
  have IV2 := Lib.hid (IV.out.below hb)
  clear K PB PV KB KV HV IB IV
  have K := K2
  have PB := PB2
  have PV := PV2
  have KB := KB2
  have KV := KV2
  have HV := HV2
  have IB := IB2
  have IV := IV2
  clear K2 PB2 PV2 KB2 KV2 HV2 IB2 IV2
  clear hb
  have sc : ∀ j y, (#[.string b.p, .string b.n, .string b.s, .int .i64 b.v] : Array Value)[j]? = some y → V5.cell? ⟨b2, j, none⟩ = some y := fun j y hy => by rw [cell_of_row V5 b2 j _ _ _ K.out.b]; exact hy
  have s0 := sc 0 _ rfl
  have s1 := sc 1 _ rfl
  have s2 := sc 2 _ rfl
  have s3 := sc 3 _ rfl
  clear sc
  have EN := Lib.hid (refEncB_any b V5 H_B.out.2)
  rw [EE.out.2.2] at EN
  unfold Bd.val at EN
  simp only at EN
  go_wp2_with fail
  skip
  refine EN.out.mono ?_
  rintro e V6 ⟨rfl, hb⟩
  clear EN s0 s1 s2 s3
  have K2 := Lib.hid (K.out.below hb)
  have PB2 := Lib.hid (PB.out.below hb)
  have PV2 := Lib.hid (PV.out.below hb)
  have KB2 := Lib.hid (KB.out.below hb)
  have KV2 := Lib.hid (KV.out.below hb)
  have HV2 := Lib.hid (HV.out.below hb)
  have IB2 := Lib.hid (IB.out.below hb)
  have IV2 := Lib.hid (IV.out.below hb)
  clear K PB PV KB KV HV IB IV
  have K := K2
  have PB := PB2
  have PV := PV2
  have KB := KB2
  have KV := KV2
  have HV := HV2
  have IB := IB2
  have IV := IV2
  clear K2 PB2 PV2 KB2 KV2 HV2 IB2 IV2
  clear hb
  have sc : ∀ j y, (#[.string q.p, .string q.n, .int .i64 q.k, .int .i64 q.a, .slice a2 q.h.length c2] : Array Value)[j]? = some y → V6.cell? ⟨bi, j, none⟩ = some y := fun j y hy => by rw [cell_of_row V6 bi j _ _ _ IB.out.o]; exact hy
  have s0 := sc 0 _ rfl
  have s1 := sc 1 _ rfl
  have s2 := sc 2 _ rfl
  have s3 := sc 3 _ rfl
  have s4 := sc 4 _ rfl
  clear sc
  have EN := Lib.hid (validQ_any q _ V6 (HM.out.below K.out.be) IV.out.r H_Q.out.2.1)
  rw [EE.out.1] at EN
  unfold Qt.val at EN
  simp only at EN
  go_wp2_with fail
  skip
  refine EN.out.mono ?_
  rintro e V7 ⟨rfl, hb⟩
  clear EN s0 s1 s2 s3 s4
  have K2 := Lib.hid (K.out.below hb)
  have PB2 := Lib.hid (PB.out.below hb)
  have PV2 := Lib.hid (PV.out.below hb)
  have KB2 := Lib.hid (KB.out.below hb)
  have KV2 := Lib.hid (KV.out.below hb)
  have HV2 := Lib.hid (HV.out.below hb)
  have IB2 := Lib.hid (IB.out.below hb)
  have IV2 := Lib.hid (IV.out.below hb)
  clear K PB PV KB KV HV IB IV
  have K := K2
  have PB := PB2
  have PV := PV2
  have KB := KB2
  have KV := KV2
  have HV := HV2
  have IB := IB2
  have IV := IV2
  clear K2 PB2 PV2 KB2 KV2 HV2 IB2 IV2
  clear hb
  have sc : ∀ j y, (#[.string l.p, .string l.n, .slice ra l.rs.length rc] : Array Value)[j]? = some y → V7.cell? ⟨b1, j, none⟩ = some y := fun j y hy => by rw [cell_of_row V7 b1 j _ _ _ K.out.l]; exact hy
  have s0 := sc 0 _ rfl
  have s1 := sc 1 _ rfl
  have s2 := sc 2 _ rfl
  clear sc
  have EN := Lib.hid (validL_any l _ V7 (HM.out.below K.out.be) (H_L.out.1.below K.out.be) H_L.out.2.1)
  rw [EE.out.2.1] at EN
  unfold Lr.val at EN
  simp only at EN
  go_wp2_with fail
  skip
  refine EN.out.mono ?_
  rintro e V8 ⟨rfl, hb⟩
  clear EN s0 s1 s2
  have K2 := Lib.hid (K.out.below hb)
  have PB2 := Lib.hid (PB.out.below hb)
  have PV2 := Lib.hid (PV.out.below hb)
  have KB2 := Lib.hid (KB.out.below hb)
  have KV2 := Lib.hid (KV.out.below hb)
  have HV2 := Lib.hid (HV.out.below hb)
  have IB2 := Lib.hid (IB.out.below hb)
  have IV2 := Lib.hid (IV.out.below hb)
  clear K PB PV KB KV HV IB IV
  have K := K2
  have PB := PB2
  have PV := PV2
  have KB := KB2
  have KV := KV2
  have HV := HV2
  have IB := IB2
  have IV := IV2
  clear K2 PB2 PV2 KB2 KV2 HV2 IB2 IV2
  clear hb
  have sc : ∀ j y, (#[.string b.p, .string b.n, .string b.s, .int .i64 b.v] : Array Value)[j]? = some y → V8.cell? ⟨b2, j, none⟩ = some y := fun j y hy => by rw [cell_of_row V8 b2 j _ _ _ K.out.b]; exact hy
  have s0 := sc 0 _ rfl
  have s1 := sc 1 _ rfl
  have s2 := sc 2 _ rfl
  have s3 := sc 3 _ rfl
  clear sc
  have EN := Lib.hid (validB_any b V8 (HM.out.below K.out.be) H_B.out.1)
  rw [EE.out.2.2] at EN
  unfold Bd.val at EN
  simp only at EN
  go_wp2_with fail
  skip
  refine EN.out.mono ?_
  rintro e V9 ⟨rfl, hb⟩
  clear EN s0 s1 s2 s3
  have K2 := Lib.hid (K.out.below hb)
  have PB2 := Lib.hid (PB.out.below hb)
  have PV2 := Lib.hid (PV.out.below hb)
  have KB2 := Lib.hid (KB.out.below hb)
  have KV2 := Lib.hid (KV.out.below hb)
  have HV2 := Lib.hid (HV.out.below hb)
  have IB2 := Lib.hid (IB.out.below hb)
  have IV2 := Lib.hid (IV.out.below hb)
  clear K PB PV KB KV HV IB IV
  have K := K2
  have PB := PB2
  have PV := PV2
  have KB := KB2
  have KV := KV2
  have HV := HV2
  have IB := IB2
  have IV := IV2
  clear K2 PB2 PV2 KB2 KV2 HV2 IB2 IV2
  clear hb
  have sc : ∀ j y, (#[.string q.p, .string q.n, .int .i64 q.k, .int .i64 q.a, .slice a2 q.h.length c2] : Array Value)[j]? = some y → V9.cell? ⟨bi, j, none⟩ = some y := fun j y hy => by rw [cell_of_row V9 bi j _ _ _ IB.out.o]; exact hy
  have s0 := sc 0 _ rfl
  have s1 := sc 1 _ rfl
  have s2 := sc 2 _ rfl
  have s3 := sc 3 _ rfl
  have s4 := sc 4 _ rfl
  clear sc
  have tc : ∀ j y, (#[.string q.p, .string q.n, .int .i64 q.k, .int .i64 q.a, .slice pa q.h.length pc] : Array Value)[j]? = some y → V9.cell? ⟨bp, j, none⟩ = some y := fun j y hy => by rw [cell_of_row V9 bp j _ _ _ PB.out.o]; exact hy
  have t0 := tc 0 _ rfl
  have t1 := tc 1 _ rfl
  have t2 := tc 2 _ rfl
  have t3 := tc 3 _ rfl
  have t4 := tc 4 _ rfl
  clear tc
  have SA := Lib.hid (sameQuota_yes q _ _ V9 IV.out.r PV.out.r)
  unfold Qt.val at SA
  go_wp2_with fail
  refine SA.out.mono ?_
  rintro e U1 ⟨rfl, hb⟩
  clear SA s0 s1 s2 s3 s4 t0 t1 t2 t3 t4
  have K2 := Lib.hid (K.out.below hb)
  have PB2 := Lib.hid (PB.out.below hb)
  have PV2 := Lib.hid (PV.out.below hb)
  have KB2 := Lib.hid (KB.out.below hb)
  have KV2 := Lib.hid (KV.out.below hb)
  have HV2 := Lib.hid (HV.out.below hb)
  have IB2 := Lib.hid (IB.out.below hb)
  have IV2 := Lib.hid (IV.out.below hb)
  clear K PB PV KB KV HV IB IV
  have K := K2
  have PB := PB2
  have PV := PV2
  have KB := KB2
  have KV := KV2
  have HV := HV2
  have IB := IB2
  have IV := IV2
  clear K2 PB2 PV2 KB2 KV2 HV2 IB2 IV2
  clear hb
  have sc : ∀ j y, (#[.string l.p, .string l.n, .slice ra l.rs.length rc] : Array Value)[j]? = some y → U1.cell? ⟨b1, j, none⟩ = some y := fun j y hy => by rw [cell_of_row U1 b1 j _ _ _ K.out.l]; exact hy
  have s0 := sc 0 _ rfl
  have s1 := sc 1 _ rfl
  have s2 := sc 2 _ rfl
  clear sc
  have tc : ∀ j y, (#[.string l.p, .string l.n, .slice ka l.rs.length kc] : Array Value)[j]? = some y → U1.cell? ⟨bk, j, none⟩ = some y := fun j y hy => by rw [cell_of_row U1 bk j _ _ _ KB.out.o]; exact hy
  have t0 := tc 0 _ rfl
  have t1 := tc 1 _ rfl
  have t2 := tc 2 _ rfl
  clear tc
  have SA := Lib.hid (sameLimit_yes l _ _ U1 (H_L.out.1.below K.out.be) KV.out.r)
  unfold Lr.val at SA
  go_wp2_with fail
  refine SA.out.mono ?_
  rintro e U2 ⟨rfl, hb⟩
  clear SA s0 s1 s2 t0 t1 t2
  have K2 := Lib.hid (K.out.below hb)
  have PB2 := Lib.hid (PB.out.below hb)
  have PV2 := Lib.hid (PV.out.below hb)
  have KB2 := Lib.hid (KB.out.below hb)
  have KV2 := Lib.hid (KV.out.below hb)
  have HV2 := Lib.hid (HV.out.below hb)
  have IB2 := Lib.hid (IB.out.below hb)
  have IV2 := Lib.hid (IV.out.below hb)
  clear K PB PV KB KV HV IB IV
  have K := K2
  have PB := PB2
  have PV := PV2
  have KB := KB2
  have KV := KV2
  have HV := HV2
  have IB := IB2
  have IV := IV2
  clear K2 PB2 PV2 KB2 KV2 HV2 IB2 IV2
  clear hb
  have p4 : U2.cell? ⟨w.heap.size, 4, none⟩ = some (.slice qa q.h.length qc) := by rw [cell_of_row U2 _ 4 _ _ _ K.out.q]; rfl
  obtain ⟨g9, o9, ea, pc9⟩ := HV.out.r.at q.h.length (by simp)
  have ge : (q.h ++ [(⟨⟨#[109, 97, 114, 107]⟩, 0⟩ : Am)]).getD q.h.length kAm.z = (⟨⟨#[109, 97, 114, 107]⟩, 0⟩ : Am) := by simp [List.getD_eq_getElem?_getD]
  rw [ge] at pc9
  subst ea
  have m0 : U2.cell? ⟨g9, o9 + q.h.length * 2, none⟩ = some (.string ⟨#[109, 97, 114, 107]⟩) := pc9 0 _ rfl
  have m1 : U2.cell? ⟨g9, o9 + q.h.length * 2 + 1, none⟩ = some (.int .i64 0) := pc9 1 _ rfl
  have j1 : (0 : Int) ≤ (q.h.length : Int) := by omega
  have j2 : (q.h.length : Int) < (q.h.length : Int) + 1 := by omega
  clear pc9 ge
  go_wp2_with fail
  go_ret
  exact ⟨rfl, K.out.be⟩
end Go.Proofs.YtanpneahembhbaaGreatDoor
end S0
