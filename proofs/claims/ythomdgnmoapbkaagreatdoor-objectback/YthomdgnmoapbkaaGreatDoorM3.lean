/-
  LawBack, joined.
-/
import Derived.Test.YthomdgnmoapbkaaGreatDoorM0
import Derived.Test.YthomdgnmoapbkaaGreatDoorObFx
import Derived.Test.YthomdgnmoapbkaaGreatDoorM2
section S0
namespace Go.Proofs.YthomdgnmoapbkaaGreatDoor
open Go.RowKit
structure BK (w : World) (b0 b1 b2 b3 : Nat) (co cq cl cb : Array Value) (W : World) : Prop where
  o : W.heap[b0]? = some (.cells co 25 (0, 0))
  q : W.heap[b1]? = some (.cells cq 30 (0, 0))
  l : W.heap[b2]? = some (.cells cl 33 (0, 0))
  b : W.heap[b3]? = some (.cells cb 35 (0, 0))
  be : Below w.heap.size w W
theorem BK.below {w W W' : World} {b0 b1 b2 b3 : Nat} {co cq cl cb : Array Value} (h : BK w b0 b1 b2 b3 co cq cl cb W) (hb : Below W.heap.size W W') : BK w b0 b1 b2 b3 co cq cl cb W' :=
  ⟨by rw [hb.block _ (lt_of_some h.o)]; exact h.o, by rw [hb.block _ (lt_of_some h.q)]; exact h.q, by rw [hb.block _ (lt_of_some h.l)]; exact h.l, by rw [hb.block _ (lt_of_some h.b)]; exact h.b, h.be.trans (hb.mono h.be.size)⟩
theorem out_err {fs : List (List UInt8)} {t : ByteArray} {n : Nat} (h : outR fs = (t, n)) (hz : ¬ n = 0) : t = ⟨#[]⟩ := by
  unfold outR at h
  split at h
  · simp only [Prod.mk.injEq] at h; exact absurd h.2.symm hz
  · simp only [Prod.mk.injEq] at h; exact h.1.symm
theorem out_size {fs : List (List UInt8)} {t : ByteArray} (h : outR fs = (t, 0)) : t.size ≤ 8192 := by
  obtain ⟨h1, rfl⟩ := out_yes h
  rw [txt_size]; exact h1
theorem obR_err {o : Ob} {t : ByteArray} {n : Nat} (h : obR o = (t, n)) (hz : ¬ n = 0) : t = ⟨#[]⟩ := by
  unfold obR at h
  split at h
  · exact out_err h hz
  · simp only [Prod.mk.injEq] at h; exact h.1.symm
theorem obR_size {o : Ob} {t : ByteArray} (h : obR o = (t, 0)) : t.size ≤ 8192 := by
  unfold obR at h
  split at h
  · exact out_size h
  · simp at h
theorem qtR_err {q : Qt} {t : ByteArray} {n : Nat} (h : qtR q = (t, n)) (hz : ¬ n = 0) : t = ⟨#[]⟩ := by
  unfold qtR at h
  split at h
  · exact out_err h hz
  · simp only [Prod.mk.injEq] at h; exact h.1.symm
theorem qtR_size {q : Qt} {t : ByteArray} (h : qtR q = (t, 0)) : t.size ≤ 8192 := by
  unfold qtR at h
  split at h
  · exact out_size h
  · simp at h
theorem lrR_err {l : Lr} {t : ByteArray} {n : Nat} (h : lrR l = (t, n)) (hz : ¬ n = 0) : t = ⟨#[]⟩ := by
  unfold lrR at h
  split at h
  · exact out_err h hz
  · simp only [Prod.mk.injEq] at h; exact h.1.symm
theorem lrR_size {l : Lr} {t : ByteArray} (h : lrR l = (t, 0)) : t.size ≤ 8192 := by
  unfold lrR at h
  split at h
  · exact out_size h
  · simp at h
theorem bdR_err {b : Bd} {t : ByteArray} {n : Nat} (h : bdR b = (t, n)) (hz : ¬ n = 0) : t = ⟨#[]⟩ := by
  unfold bdR at h
  split at h
  · exact out_err h hz
  · simp only [Prod.mk.injEq] at h; exact h.1.symm
theorem bdR_size {b : Bd} {t : ByteArray} (h : bdR b = (t, 0)) : t.size ≤ 8192 := by
  unfold bdR at h
  split at h
  · exact out_size h
  · simp at h
set_option maxHeartbeats 64000000 in
set_option maxRecDepth 100000 in
theorem objectBack_walk (o : Ob) (ov op : Value) (q : Qt) (qv : Value) (l : Lr) (lv : Value) (b : Bd) (t : ByteArray) (w : World) (hm : L.HasM w)
    (ho : ObV w ov op o ∧ o.Fit ∧ o.ls.length * 32 ≤ 140737488355328 ∧ o.ps.length * 64 ≤ 140737488355328 ∧ ∀ y ∈ o.ps, y.r.length * 24 ≤ 140737488355328 ∧ y.l.length * 24 ≤ 140737488355328)
    (hq : Row kAm w qv q.h ∧ q.Fit ∧ q.h.length * 24 ≤ 140737488355328) (hl : Row kRl w lv l.rs ∧ l.Fit ∧ l.rs.length * 56 ≤ 140737488355328) (hb : b.Fit) (ht : t.size ≤ 140737488351232) :
    Calls Tryz.prog 3 #[o.val ov op, q.val qv, l.val lv, b.val, .string t] w fun e w' => e = .returned (.bool true) ∧ Below w.heap.size w w' := by
  obtain ⟨la, lc, rfl, _, _⟩ := ho.1.l.len
  obtain ⟨pa, pc, rfl, _, _⟩ := ho.1.p.len
  obtain ⟨qa, qc, rfl, _, _⟩ := hq.1.len
  obtain ⟨ra, rc, rfl, _, _⟩ := hl.1.len
  have HM := Lib.hid hm
  have H_O := Lib.hid ho
  have H_Q := Lib.hid hq
  have H_L := Lib.hid hl
  have H_B := Lib.hid hb
  have HT : Hid (t.size ≤ 140737488355328) := Lib.hid (by omega)
  clear hm ho hq hl hb ht
  unfold Ob.val Qt.val Lr.val Bd.val
  obtain ⟨X1, hX1⟩ : ∃ X, X = w.alloc (.cells #[.string o.p, .string o.n, (.slice la o.ls.length lc), .int .i64 o.pr, .int .i64 o.dl, (.slice pa o.ps.length pc), .int .i64 o.ver] 25) := ⟨_, rfl⟩
  obtain ⟨X2, hX2⟩ : ∃ X, X = X1.alloc (.cells #[.string q.p, .string q.n, .int .i64 q.k, .int .i64 q.a, (.slice qa q.h.length qc)] 30) := ⟨_, rfl⟩
  obtain ⟨X3, hX3⟩ : ∃ X, X = X2.alloc (.cells #[.string l.p, .string l.n, (.slice ra l.rs.length rc)] 33) := ⟨_, rfl⟩
  obtain ⟨X4, hX4⟩ : ∃ X, X = X3.alloc (.cells #[.string b.p, .string b.n, .string b.s, .int .i64 b.v] 35) := ⟨_, rfl⟩
  have s1 : X1.heap.size = w.heap.size + 1 := by rw [hX1]; simp
  have B1 : Below w.heap.size w X1 := by rw [hX1]; exact (Below.refl _ _).alloc (Nat.le_refl _) _
  have r1 : X1.heap[w.heap.size]? = some (.cells #[.string o.p, .string o.n, (.slice la o.ls.length lc), .int .i64 o.pr, .int .i64 o.dl, (.slice pa o.ps.length pc), .int .i64 o.ver] 25 (0, 0)) := by rw [hX1, heap_alloc_new]
  have s2 : X2.heap.size = w.heap.size + 2 := by rw [hX2]; simp [s1]
  have B2 : Below X1.heap.size X1 X2 := by rw [hX2]; exact (Below.refl _ _).alloc (Nat.le_refl _) _
  have r2 : X2.heap[X1.heap.size]? = some (.cells #[.string q.p, .string q.n, .int .i64 q.k, .int .i64 q.a, (.slice qa q.h.length qc)] 30 (0, 0)) := by rw [hX2, heap_alloc_new]
  have s3 : X3.heap.size = w.heap.size + 3 := by rw [hX3]; simp [s2]
  have B3 : Below X2.heap.size X2 X3 := by rw [hX3]; exact (Below.refl _ _).alloc (Nat.le_refl _) _
  have r3 : X3.heap[X2.heap.size]? = some (.cells #[.string l.p, .string l.n, (.slice ra l.rs.length rc)] 33 (0, 0)) := by rw [hX3, heap_alloc_new]
  have s4 : X4.heap.size = w.heap.size + 4 := by rw [hX4]; simp [s3]
  have B4 : Below X3.heap.size X3 X4 := by rw [hX4]; exact (Below.refl _ _).alloc (Nat.le_refl _) _
  have r4 : X4.heap[X3.heap.size]? = some (.cells #[.string b.p, .string b.n, .string b.s, .int .i64 b.v] 35 (0, 0)) := by rw [hX4, heap_alloc_new]
  have BB : Below w.heap.size w X4 := ((B1.trans (B2.mono B1.size)).trans (B3.mono (by omega))).trans (B4.mono (by omega))
  have lt1 := lt_of_some r1
  have lt2 := lt_of_some r2
  have lt3 := lt_of_some r3
  obtain ⟨b1, hb1⟩ : ∃ b1, b1 = w.heap.size + 1 := ⟨_, rfl⟩
  obtain ⟨b2, hb2⟩ : ∃ b2, b2 = b1 + 1 := ⟨_, rfl⟩
  obtain ⟨b3, hb3⟩ : ∃ b3, b3 = b2 + 1 := ⟨_, rfl⟩
  have K : Hid (BK w w.heap.size b1 b2 b3 #[.string o.p, .string o.n, (.slice la o.ls.length lc), .int .i64 o.pr, .int .i64 o.dl, (.slice pa o.ps.length pc), .int .i64 o.ver] #[.string q.p, .string q.n, .int .i64 q.k, .int .i64 q.a, (.slice qa q.h.length qc)] #[.string l.p, .string l.n, (.slice ra l.rs.length rc)] #[.string b.p, .string b.n, .string b.s, .int .i64 b.v] X4) := Lib.hid ⟨by rw [B4.block _ (by omega), B3.block _ (by omega), B2.block _ lt1]; exact r1, by rw [hb1, ← s1, B4.block _ (by omega), B3.block _ lt2]; exact r2, by rw [show b2 = X2.heap.size by omega, B4.block _ lt3]; exact r3, by rw [show b3 = X3.heap.size by omega]; exact r4, BB⟩
  have EX : Hid (X4 = ((((w.alloc (.cells #[.string o.p, .string o.n, (.slice la o.ls.length lc), .int .i64 o.pr, .int .i64 o.dl, (.slice pa o.ps.length pc), .int .i64 o.ver] 25)).alloc (.cells #[.string q.p, .string q.n, .int .i64 q.k, .int .i64 q.a, (.slice qa q.h.length qc)] 30)).alloc (.cells #[.string l.p, .string l.n, (.slice ra l.rs.length rc)] 33)).alloc (.cells #[.string b.p, .string b.n, .string b.s, .int .i64 b.v] 35))) := Lib.hid (by rw [hX4, hX3, hX2, hX1])
  have HBS := Lib.hid (And.intro hb1 (And.intro hb2 hb3))
  clear hX1 hX2 hX3 hX4 s1 s2 s3 s4 B1 B2 B3 B4 r1 r2 r3 r4 BB lt1 lt2 lt3 hb1 hb2 hb3
  go_enter Tryz.func3, Tryz.ntmps3
  go_wp2_with fail
  rw [← EX.out]
  clear EX
  rw [← HBS.out.1, ← HBS.out.2.1, ← HBS.out.2.2]
  clear HBS
  refine (fixed_any sameObject_yes X4 (HM.out.below K.out.be)).mono ?_
  rintro e W0 ⟨rfl, hb⟩
  have K2 := Lib.hid (K.out.below hb)
  clear K hb
  have K := K2
  clear K2
  obtain ⟨t1, n1, hR⟩ : ∃ (t1 : ByteArray) (n1 : Nat), obR o = (t1, n1) := ⟨_, _, rfl⟩
  have pc : ∀ j y, (#[.string o.p, .string o.n, (.slice la o.ls.length lc), .int .i64 o.pr, .int .i64 o.dl, (.slice pa o.ps.length pc), .int .i64 o.ver] : Array Value)[j]? = some y → W0.cell? ⟨w.heap.size, j, none⟩ = some y := fun j y hy => by rw [cell_of_row W0 w.heap.size j _ _ _ K.out.o]; exact hy
  have p0 := pc 0 _ rfl
  have p1 := pc 1 _ rfl
  have p2 := pc 2 _ rfl
  have p3 := pc 3 _ rfl
  have p4 := pc 4 _ rfl
  have p5 := pc 5 _ rfl
  have p6 := pc 6 _ rfl
  clear pc
  have OA := Lib.hid (ownObject_any o _ _ W0 (H_O.out.1.below K.out.be) H_O.out.2.2.1 H_O.out.2.2.2.1 H_O.out.2.2.2.2)
  unfold Ob.val at OA
  go_wp2_with fail
  refine OA.out.mono ?_
  rintro e W2 ⟨vl, vp, rfl, hv, hb⟩
  have K2 := Lib.hid (K.out.below hb)
  clear K hb OA p0 p1 p2 p3 p4 p5 p6
  have K := K2
  clear K2
  have EN := Lib.hid (encode_any o vl vp W2 (HM.out.below K.out.be) hv.obv H_O.out.2.1)
  rw [hR] at EN
  unfold Ob.val at EN
  simp only at EN
  clear hv
  go_wp2_with fail
  refine EN.out.mono ?_
  rintro e W3 ⟨rfl, hb⟩
  have K2 := Lib.hid (K.out.below hb)
  clear K hb EN
  have K := K2
  clear K2
  have pc : ∀ j y, (#[.string o.p, .string o.n, (.slice la o.ls.length lc), .int .i64 o.pr, .int .i64 o.dl, (.slice pa o.ps.length pc), .int .i64 o.ver] : Array Value)[j]? = some y → W3.cell? ⟨w.heap.size, j, none⟩ = some y := fun j y hy => by rw [cell_of_row W3 w.heap.size j _ _ _ K.out.o]; exact hy
  have p0 := pc 0 _ rfl
  have p1 := pc 1 _ rfl
  have p2 := pc 2 _ rfl
  have p3 := pc 3 _ rfl
  have p4 := pc 4 _ rfl
  have p5 := pc 5 _ rfl
  have p6 := pc 6 _ rfl
  clear pc
  have OA := Lib.hid (ownObject_any o _ _ W3 (H_O.out.1.below K.out.be) H_O.out.2.2.1 H_O.out.2.2.2.1 H_O.out.2.2.2.2)
  unfold Ob.val at OA
  go_wp2_with fail
  refine OA.out.mono ?_
  rintro e W4 ⟨vl, vp, rfl, hv, hb⟩
  have K2 := Lib.hid (K.out.below hb)
  clear K hb OA p0 p1 p2 p3 p4 p5 p6
  have K := K2
  clear K2
  have EN := Lib.hid (valido_any o vl vp W4 (HM.out.below K.out.be) hv.obv H_O.out.2.1)
  rw [hR] at EN
  unfold Ob.val at EN
  simp only at EN
  clear hv
  go_wp2_with fail
  refine EN.out.mono ?_
  rintro e W5 ⟨rfl, hb⟩
  have K2 := Lib.hid (K.out.below hb)
  clear K hb EN
  have K := K2
  clear K2
  by_cases hz : n1 = 0
  · subst hz
    have DD := Lib.hid (dec_enc hR H_O.out.2.1)
    have LT := Lib.hid (obR_letter hR)
    have S8 := Lib.hid (obR_size hR)
    have SZ : Hid (t1.size ≤ 140737488355328) := Lib.hid (by have := S8.out; omega)
    clear hR
    go_wp2_with fail
    refine (decode_any t1 W5 (HM.out.below K.out.be) SZ.out).mono ?_
    rintro e W6 ⟨vl, vp, rfl, hv, hb⟩
    rw [DD.out] at hv ⊢
    obtain ⟨xa, xc, rfl, _, _⟩ := hv.obv.l.len
    obtain ⟨ya, yc, rfl, _, _⟩ := hv.obv.p.len
    unfold Ob.val
    simp only
    obtain ⟨Y6, hY⟩ : ∃ Y, Y = W6.alloc (.cells #[.string o.p, .string o.n, (.slice xa o.ls.length xc), .int .i64 o.pr, .int .i64 o.dl, (.slice ya o.ps.length yc), .int .i64 o.ver] 25) := ⟨_, rfl⟩
    obtain ⟨bb, hbb⟩ : ∃ bb, bb = W6.heap.size := ⟨_, rfl⟩
    have YA : Hid (Below W6.heap.size W6 Y6 ∧ Y6.heap[bb]? = some (.cells #[.string o.p, .string o.n, (.slice xa o.ls.length xc), .int .i64 o.pr, .int .i64 o.dl, (.slice ya o.ps.length yc), .int .i64 o.ver] 25 (0, 0))) := Lib.hid (by rw [hY, hbb]; exact ⟨(Below.refl _ _).alloc (Nat.le_refl _) _, by rw [heap_alloc_new]⟩)
    have V := Lib.hid (hv.obv.below YA.out.1)
    clear hv
    have YB := Lib.hid YA.out.2
    have K2 := Lib.hid ((K.out.below hb).below YA.out.1)
    clear K hb YA
    have K := K2
    clear K2
    have hY2 := hY.symm
    have hbb2 := hbb.symm
    clear hY hbb
    go_wp2_with fail
    clear hY2
    refine (decodeQ_any t1 Y6 (HM.out.below K.out.be) SZ.out).mono ?_
    rintro e W8 ⟨vl, rfl, hv, hb⟩
    obtain ⟨za, zc, rfl⟩ := hv.slice
    clear hv
    rw [decQ_not (by rw [LT.out]; decide)]
    unfold Qt.val Qt.z
    simp only [List.length_nil]
    obtain ⟨Y8, hY⟩ : ∃ Y, Y = W8.alloc (.cells #[.string ⟨#[]⟩, .string ⟨#[]⟩, .int .i64 0, .int .i64 0, .slice za 0 zc] 30) := ⟨_, rfl⟩
    have AB : Below Y6.heap.size Y6 Y8 := by rw [hY]; exact hb.alloc hb.size _
    have K2 := Lib.hid (K.out.below AB)
    have YB2 := Lib.hid ((AB.block _ (lt_of_some YB.out)).trans YB.out)
    have V2 := Lib.hid (V.out.below AB)
    clear YB V
    have YB := YB2
    have V := V2
    clear YB2 V2
    clear K hb AB
    have K := K2
    clear K2
    have hY2 := hY.symm
    clear hY
    go_wp2_with fail
    clear hY2
    refine (decodeL_any t1 Y8 (HM.out.below K.out.be) SZ.out).mono ?_
    rintro e W9 ⟨vl, rfl, hv, hb⟩
    obtain ⟨za, zc, rfl⟩ := hv.slice
    clear hv
    rw [decL_not (by rw [LT.out]; decide)]
    unfold Lr.val Lr.z
    simp only [List.length_nil]
    obtain ⟨Y9, hY⟩ : ∃ Y, Y = W9.alloc (.cells #[.string ⟨#[]⟩, .string ⟨#[]⟩, .slice za 0 zc] 33) := ⟨_, rfl⟩
    have AB : Below Y8.heap.size Y8 Y9 := by rw [hY]; exact hb.alloc hb.size _
    have K2 := Lib.hid (K.out.below AB)
    have YB2 := Lib.hid ((AB.block _ (lt_of_some YB.out)).trans YB.out)
    have V2 := Lib.hid (V.out.below AB)
    clear YB V
    have YB := YB2
    have V := V2
    clear YB2 V2
    clear K hb AB
    have K := K2
    clear K2
    have hY2 := hY.symm
    clear hY
    go_wp2_with fail
    clear hY2
    refine (decodeB_any t1 Y9 (HM.out.below K.out.be) SZ.out).mono ?_
    rintro e W10 ⟨rfl, hb⟩
    rw [decB_not (by rw [LT.out]; decide)]
    unfold Bd.val Bd.z
    have AB : Below Y9.heap.size Y9 (W10.alloc (.cells #[.string ⟨#[]⟩, .string ⟨#[]⟩, .string ⟨#[]⟩, .int .i64 0] 35)) := hb.alloc hb.size _
    have K2 := Lib.hid (K.out.below AB)
    have YB2 := Lib.hid ((AB.block _ (lt_of_some YB.out)).trans YB.out)
    have V2 := Lib.hid (V.out.below AB)
    clear YB V
    have YB := YB2
    have V := V2
    clear YB2 V2
    clear K hb AB
    have K := K2
    clear K2
    have rc9 : ∀ j y, (#[.string o.p, .string o.n, (.slice xa o.ls.length xc), .int .i64 o.pr, .int .i64 o.dl, (.slice ya o.ps.length yc), .int .i64 o.ver] : Array Value)[j]? = some y → (W10.alloc (.cells #[.string ⟨#[]⟩, .string ⟨#[]⟩, .string ⟨#[]⟩, .int .i64 0] 35)).cell? ⟨bb, j, none⟩ = some y := fun j y hy => by rw [cell_of_row (W10.alloc (.cells #[.string ⟨#[]⟩, .string ⟨#[]⟩, .string ⟨#[]⟩, .int .i64 0] 35)) bb j _ _ _ YB.out]; exact hy
    have r0 := rc9 0 _ rfl
    have r1 := rc9 1 _ rfl
    have r2 := rc9 2 _ rfl
    have r3 := rc9 3 _ rfl
    have r4 := rc9 4 _ rfl
    have r5 := rc9 5 _ rfl
    have r6 := rc9 6 _ rfl
    clear rc9
    have pc : ∀ j y, (#[.string o.p, .string o.n, (.slice la o.ls.length lc), .int .i64 o.pr, .int .i64 o.dl, (.slice pa o.ps.length pc), .int .i64 o.ver] : Array Value)[j]? = some y → (W10.alloc (.cells #[.string ⟨#[]⟩, .string ⟨#[]⟩, .string ⟨#[]⟩, .int .i64 0] 35)).cell? ⟨w.heap.size, j, none⟩ = some y := fun j y hy => by rw [cell_of_row (W10.alloc (.cells #[.string ⟨#[]⟩, .string ⟨#[]⟩, .string ⟨#[]⟩, .int .i64 0] 35)) w.heap.size j _ _ _ K.out.o]; exact hy
    have p0 := pc 0 _ rfl
    have p1 := pc 1 _ rfl
    have p2 := pc 2 _ rfl
    have p3 := pc 3 _ rfl
    have p4 := pc 4 _ rfl
    have p5 := pc 5 _ rfl
    have p6 := pc 6 _ rfl
    clear pc
    have l8 : ((t1.size : Nat) : Int) ≤ 8192 := by have := S8.out; omega
    have SA := Lib.hid (sameObject_yes o _ _ _ _ (W10.alloc (.cells #[.string ⟨#[]⟩, .string ⟨#[]⟩, .string ⟨#[]⟩, .int .i64 0] 35)) V.out (H_O.out.1.below K.out.be))
    unfold Ob.val at SA
    go_wp2_with fail
    refine SA.out.mono ?_
    rintro e W19 ⟨rfl, hb⟩
    have K2 := Lib.hid (K.out.below hb)
    clear K hb SA YB V DD LT S8 SZ p0 p1 p2 p3 p4 p5 p6 r0 r1 r2 r3 r4 r5 r6
    have K := K2
    clear K2
    obtain ⟨t11, n11, hR⟩ : ∃ (t1 : ByteArray) (n1 : Nat), qtR q = (t1, n1) := ⟨_, _, rfl⟩
    have pc : ∀ j y, (#[.string q.p, .string q.n, .int .i64 q.k, .int .i64 q.a, (.slice qa q.h.length qc)] : Array Value)[j]? = some y → W19.cell? ⟨b1, j, none⟩ = some y := fun j y hy => by rw [cell_of_row W19 b1 j _ _ _ K.out.q]; exact hy
    have p0 := pc 0 _ rfl
    have p1 := pc 1 _ rfl
    have p2 := pc 2 _ rfl
    have p3 := pc 3 _ rfl
    have p4 := pc 4 _ rfl
    clear pc
    have OA := Lib.hid (ownQuota_any q _ W19 (H_Q.out.1.below K.out.be) H_Q.out.2.2)
    unfold Qt.val at OA
    go_wp2_with fail
    refine OA.out.mono ?_
    rintro e W12 ⟨vl, rfl, hv, hb⟩
    have K2 := Lib.hid (K.out.below hb)
    clear K hb OA p0 p1 p2 p3 p4
    have K := K2
    clear K2
    have EN := Lib.hid (encodeQ_any q vl W12 (HM.out.below K.out.be) (hv.row okAm) H_Q.out.2.1)
    rw [hR] at EN
    unfold Qt.val at EN
    simp only at EN
    clear hv
    go_wp2_with fail
    refine EN.out.mono ?_
    rintro e W13 ⟨rfl, hb⟩
    have K2 := Lib.hid (K.out.below hb)
    clear K hb EN
    have K := K2
    clear K2
    have pc : ∀ j y, (#[.string q.p, .string q.n, .int .i64 q.k, .int .i64 q.a, (.slice qa q.h.length qc)] : Array Value)[j]? = some y → W13.cell? ⟨b1, j, none⟩ = some y := fun j y hy => by rw [cell_of_row W13 b1 j _ _ _ K.out.q]; exact hy
    have p0 := pc 0 _ rfl
    have p1 := pc 1 _ rfl
    have p2 := pc 2 _ rfl
    have p3 := pc 3 _ rfl
    have p4 := pc 4 _ rfl
    clear pc
    have OA := Lib.hid (ownQuota_any q _ W13 (H_Q.out.1.below K.out.be) H_Q.out.2.2)
    unfold Qt.val at OA
    go_wp2_with fail
    refine OA.out.mono ?_
    rintro e W14 ⟨vl, rfl, hv, hb⟩
    have K2 := Lib.hid (K.out.below hb)
    clear K hb OA p0 p1 p2 p3 p4
    have K := K2
    clear K2
    have EN := Lib.hid (validQ_any q vl W14 (HM.out.below K.out.be) (hv.row okAm) H_Q.out.2.1)
    rw [hR] at EN
    unfold Qt.val at EN
    simp only at EN
    clear hv
    go_wp2_with fail
    refine EN.out.mono ?_
    rintro e W15 ⟨rfl, hb⟩
    have K2 := Lib.hid (K.out.below hb)
    clear K hb EN
    have K := K2
    clear K2
    by_cases hz : n11 = 0
    · subst hz
      have DD := Lib.hid (dec_encQ hR H_Q.out.2.1)
      have LT := Lib.hid (qtR_letter hR)
      have S8 := Lib.hid (qtR_size hR)
      have SZ : Hid (t11.size ≤ 140737488355328) := Lib.hid (by have := S8.out; omega)
      clear hR
      go_wp2_with fail
      refine (decodeQ_any t11 W15 (HM.out.below K.out.be) SZ.out).mono ?_
      rintro e W16 ⟨vl, rfl, hv, hb⟩
      rw [DD.out] at hv ⊢
      obtain ⟨xa, xc, rfl⟩ := hv.slice
      unfold Qt.val
      simp only
      obtain ⟨Y16, hY⟩ : ∃ Y, Y = W16.alloc (.cells #[.string q.p, .string q.n, .int .i64 q.k, .int .i64 q.a, (.slice xa q.h.length xc)] 30) := ⟨_, rfl⟩
      obtain ⟨bb, hbb⟩ : ∃ bb, bb = W16.heap.size := ⟨_, rfl⟩
      have YA : Hid (Below W16.heap.size W16 Y16 ∧ Y16.heap[bb]? = some (.cells #[.string q.p, .string q.n, .int .i64 q.k, .int .i64 q.a, (.slice xa q.h.length xc)] 30 (0, 0))) := Lib.hid (by rw [hY, hbb]; exact ⟨(Below.refl _ _).alloc (Nat.le_refl _) _, by rw [heap_alloc_new]⟩)
      have V := Lib.hid ((hv.row okAm).below YA.out.1)
      clear hv
      have YB := Lib.hid YA.out.2
      have K2 := Lib.hid ((K.out.below hb).below YA.out.1)
      clear K hb YA
      have K := K2
      clear K2
      have hY2 := hY.symm
      have hbb2 := hbb.symm
      clear hY hbb
      have rc9 : ∀ j y, (#[.string q.p, .string q.n, .int .i64 q.k, .int .i64 q.a, (.slice xa q.h.length xc)] : Array Value)[j]? = some y → Y16.cell? ⟨bb, j, none⟩ = some y := fun j y hy => by rw [cell_of_row Y16 bb j _ _ _ YB.out]; exact hy
      have r0 := rc9 0 _ rfl
      have r1 := rc9 1 _ rfl
      have r2 := rc9 2 _ rfl
      have r3 := rc9 3 _ rfl
      have r4 := rc9 4 _ rfl
      clear rc9
      have pc : ∀ j y, (#[.string q.p, .string q.n, .int .i64 q.k, .int .i64 q.a, (.slice qa q.h.length qc)] : Array Value)[j]? = some y → Y16.cell? ⟨b1, j, none⟩ = some y := fun j y hy => by rw [cell_of_row Y16 b1 j _ _ _ K.out.q]; exact hy
      have p0 := pc 0 _ rfl
      have p1 := pc 1 _ rfl
      have p2 := pc 2 _ rfl
      have p3 := pc 3 _ rfl
      have p4 := pc 4 _ rfl
      clear pc
      have SA := Lib.hid (sameQuota_yes q _ _ Y16 V.out (H_Q.out.1.below K.out.be))
      unfold Qt.val at SA
      go_wp2_with fail
      clear hY2
      refine SA.out.mono ?_
      rintro e W119 ⟨rfl, hb⟩
      have K2 := Lib.hid (K.out.below hb)
      clear K hb SA YB V DD LT S8 SZ p0 p1 p2 p3 p4 r0 r1 r2 r3 r4
      have K := K2
      clear K2
      obtain ⟨t18, n18, hR⟩ : ∃ (t1 : ByteArray) (n1 : Nat), lrR l = (t1, n1) := ⟨_, _, rfl⟩
      have pc : ∀ j y, (#[.string l.p, .string l.n, (.slice ra l.rs.length rc)] : Array Value)[j]? = some y → W119.cell? ⟨b2, j, none⟩ = some y := fun j y hy => by rw [cell_of_row W119 b2 j _ _ _ K.out.l]; exact hy
      have p0 := pc 0 _ rfl
      have p1 := pc 1 _ rfl
      have p2 := pc 2 _ rfl
      clear pc
      have OA := Lib.hid (ownLimit_any l _ W119 (H_L.out.1.below K.out.be) H_L.out.2.2)
      unfold Lr.val at OA
      go_wp2_with fail
      refine OA.out.mono ?_
      rintro e W19 ⟨vl, rfl, hv, hb⟩
      have K2 := Lib.hid (K.out.below hb)
      clear K hb OA p0 p1 p2
      have K := K2
      clear K2
      have EN := Lib.hid (encodeL_any l vl W19 (HM.out.below K.out.be) (hv.row okRl) H_L.out.2.1)
      rw [hR] at EN
      unfold Lr.val at EN
      simp only at EN
      clear hv
      go_wp2_with fail
      refine EN.out.mono ?_
      rintro e W20 ⟨rfl, hb⟩
      have K2 := Lib.hid (K.out.below hb)
      clear K hb EN
      have K := K2
      clear K2
      have pc : ∀ j y, (#[.string l.p, .string l.n, (.slice ra l.rs.length rc)] : Array Value)[j]? = some y → W20.cell? ⟨b2, j, none⟩ = some y := fun j y hy => by rw [cell_of_row W20 b2 j _ _ _ K.out.l]; exact hy
      have p0 := pc 0 _ rfl
      have p1 := pc 1 _ rfl
      have p2 := pc 2 _ rfl
      clear pc
      have OA := Lib.hid (ownLimit_any l _ W20 (H_L.out.1.below K.out.be) H_L.out.2.2)
      unfold Lr.val at OA
      go_wp2_with fail
      refine OA.out.mono ?_
      rintro e W21 ⟨vl, rfl, hv, hb⟩
      have K2 := Lib.hid (K.out.below hb)
      clear K hb OA p0 p1 p2
      have K := K2
      clear K2
      have EN := Lib.hid (validL_any l vl W21 (HM.out.below K.out.be) (hv.row okRl) H_L.out.2.1)
      rw [hR] at EN
      unfold Lr.val at EN
      simp only at EN
      clear hv
      go_wp2_with fail
      refine EN.out.mono ?_
      rintro e W22 ⟨rfl, hb⟩
      have K2 := Lib.hid (K.out.below hb)
      clear K hb EN
      have K := K2
      clear K2
      by_cases hz : n18 = 0
      · subst hz
        have DD := Lib.hid (dec_encL hR H_L.out.2.1)
        have LT := Lib.hid (lrR_letter hR)
        have S8 := Lib.hid (lrR_size hR)
        have SZ : Hid (t18.size ≤ 140737488355328) := Lib.hid (by have := S8.out; omega)
        clear hR
        go_wp2_with fail
        refine (decodeL_any t18 W22 (HM.out.below K.out.be) SZ.out).mono ?_
        rintro e W23 ⟨vl, rfl, hv, hb⟩
        rw [DD.out] at hv ⊢
        obtain ⟨xa, xc, rfl⟩ := hv.slice
        unfold Lr.val
        simp only
        obtain ⟨Y23, hY⟩ : ∃ Y, Y = W23.alloc (.cells #[.string l.p, .string l.n, (.slice xa l.rs.length xc)] 33) := ⟨_, rfl⟩
        obtain ⟨bb, hbb⟩ : ∃ bb, bb = W23.heap.size := ⟨_, rfl⟩
        have YA : Hid (Below W23.heap.size W23 Y23 ∧ Y23.heap[bb]? = some (.cells #[.string l.p, .string l.n, (.slice xa l.rs.length xc)] 33 (0, 0))) := Lib.hid (by rw [hY, hbb]; exact ⟨(Below.refl _ _).alloc (Nat.le_refl _) _, by rw [heap_alloc_new]⟩)
        have V := Lib.hid ((hv.row okRl).below YA.out.1)
        clear hv
        have YB := Lib.hid YA.out.2
        have K2 := Lib.hid ((K.out.below hb).below YA.out.1)
        clear K hb YA
        have K := K2
        clear K2
        have hY2 := hY.symm
        have hbb2 := hbb.symm
        clear hY hbb
        have rc9 : ∀ j y, (#[.string l.p, .string l.n, (.slice xa l.rs.length xc)] : Array Value)[j]? = some y → Y23.cell? ⟨bb, j, none⟩ = some y := fun j y hy => by rw [cell_of_row Y23 bb j _ _ _ YB.out]; exact hy
        have r0 := rc9 0 _ rfl
        have r1 := rc9 1 _ rfl
        have r2 := rc9 2 _ rfl
        clear rc9
        have pc : ∀ j y, (#[.string l.p, .string l.n, (.slice ra l.rs.length rc)] : Array Value)[j]? = some y → Y23.cell? ⟨b2, j, none⟩ = some y := fun j y hy => by rw [cell_of_row Y23 b2 j _ _ _ K.out.l]; exact hy
        have p0 := pc 0 _ rfl
        have p1 := pc 1 _ rfl
        have p2 := pc 2 _ rfl
        clear pc
        have SA := Lib.hid (sameLimit_yes l _ _ Y23 V.out (H_L.out.1.below K.out.be))
        unfold Lr.val at SA
        go_wp2_with fail
        clear hY2
        refine SA.out.mono ?_
        rintro e W189 ⟨rfl, hb⟩
        have K2 := Lib.hid (K.out.below hb)
        clear K hb SA YB V DD LT S8 SZ p0 p1 p2 r0 r1 r2
        have K := K2
        clear K2
        obtain ⟨t25, n25, hR⟩ : ∃ (t1 : ByteArray) (n1 : Nat), bdR b = (t1, n1) := ⟨_, _, rfl⟩
        have pc : ∀ j y, (#[.string b.p, .string b.n, .string b.s, .int .i64 b.v] : Array Value)[j]? = some y → W189.cell? ⟨b3, j, none⟩ = some y := fun j y hy => by rw [cell_of_row W189 b3 j _ _ _ K.out.b]; exact hy
        have p0 := pc 0 _ rfl
        have p1 := pc 1 _ rfl
        have p2 := pc 2 _ rfl
        have p3 := pc 3 _ rfl
        clear pc
        have EN := Lib.hid (encodeB_any b W189 (HM.out.below K.out.be) H_B.out)
        rw [hR] at EN
        unfold Bd.val at EN
        simp only at EN
        go_wp2_with fail
        refine EN.out.mono ?_
        rintro e W26 ⟨rfl, hb⟩
        have K2 := Lib.hid (K.out.below hb)
        clear K hb EN p0 p1 p2 p3
        have K := K2
        clear K2
        have pc : ∀ j y, (#[.string b.p, .string b.n, .string b.s, .int .i64 b.v] : Array Value)[j]? = some y → W26.cell? ⟨b3, j, none⟩ = some y := fun j y hy => by rw [cell_of_row W26 b3 j _ _ _ K.out.b]; exact hy
        have p0 := pc 0 _ rfl
        have p1 := pc 1 _ rfl
        have p2 := pc 2 _ rfl
        have p3 := pc 3 _ rfl
        clear pc
        have EN := Lib.hid (validB_any b W26 (HM.out.below K.out.be) H_B.out)
        rw [hR] at EN
        unfold Bd.val at EN
        simp only at EN
        go_wp2_with fail
        refine EN.out.mono ?_
        rintro e W27 ⟨rfl, hb⟩
        have K2 := Lib.hid (K.out.below hb)
        clear K hb EN p0 p1 p2 p3
        have K := K2
        clear K2
        by_cases hz : n25 = 0
        · subst hz
          have DD := Lib.hid (dec_encB hR)
          have LT := Lib.hid (bdR_letter hR)
          have S8 := Lib.hid (bdR_size hR)
          have SZ : Hid (t25.size ≤ 140737488355328) := Lib.hid (by have := S8.out; omega)
          clear hR
          go_wp2_with fail
          refine (decodeB_any t25 W27 (HM.out.below K.out.be) SZ.out).mono ?_
          rintro e W28 ⟨rfl, hb⟩
          rw [DD.out]
          unfold Bd.val
          simp only
          obtain ⟨Y28, hY⟩ : ∃ Y, Y = W28.alloc (.cells #[.string b.p, .string b.n, .string b.s, .int .i64 b.v] 35) := ⟨_, rfl⟩
          obtain ⟨bb, hbb⟩ : ∃ bb, bb = W28.heap.size := ⟨_, rfl⟩
          have YA : Hid (Below W28.heap.size W28 Y28 ∧ Y28.heap[bb]? = some (.cells #[.string b.p, .string b.n, .string b.s, .int .i64 b.v] 35 (0, 0))) := Lib.hid (by rw [hY, hbb]; exact ⟨(Below.refl _ _).alloc (Nat.le_refl _) _, by rw [heap_alloc_new]⟩)
          have YB := Lib.hid YA.out.2
          have K2 := Lib.hid ((K.out.below hb).below YA.out.1)
          clear K hb YA
          have K := K2
          clear K2
          have hY2 := hY.symm
          have hbb2 := hbb.symm
          clear hY hbb
          have rc9 : ∀ j y, (#[.string b.p, .string b.n, .string b.s, .int .i64 b.v] : Array Value)[j]? = some y → Y28.cell? ⟨bb, j, none⟩ = some y := fun j y hy => by rw [cell_of_row Y28 bb j _ _ _ YB.out]; exact hy
          have r0 := rc9 0 _ rfl
          have r1 := rc9 1 _ rfl
          have r2 := rc9 2 _ rfl
          have r3 := rc9 3 _ rfl
          clear rc9
          have pc : ∀ j y, (#[.string b.p, .string b.n, .string b.s, .int .i64 b.v] : Array Value)[j]? = some y → Y28.cell? ⟨b3, j, none⟩ = some y := fun j y hy => by rw [cell_of_row Y28 b3 j _ _ _ K.out.b]; exact hy
          have p0 := pc 0 _ rfl
          have p1 := pc 1 _ rfl
          have p2 := pc 2 _ rfl
          have p3 := pc 3 _ rfl
          clear pc
          clear DD LT S8 SZ
          have AG := Lib.hid (again_any t Y28 (HM.out.below K.out.be) HT.out)
          go_wp2_with fail
          clear hY2
          refine AG.out.mono ?_
          rintro e W99 ⟨rfl, hb⟩
          have K2 := Lib.hid (K.out.below hb)
          clear K hb AG
          go_wp2_with fail
          go_ret
          exact ⟨rfl, K2.out.be⟩
        · have e0 := bdR_err hR hz
          subst e0
          clear hR
          have SZ : Hid ((⟨#[]⟩ : ByteArray).size ≤ 140737488355328) := Lib.hid (by decide)
          have z1 : ¬ ((n25 : Int) = 0) := by omega
          have z2 : ((n25 : Int) == 0) = false := by simpa using z1
          go_wp2_with fail
          refine (decodeB_any ⟨#[]⟩ W27 (HM.out.below K.out.be) SZ.out).mono ?_
          rintro e W30 ⟨rfl, hb⟩
          rw [decB_not (by decide)]
          unfold Bd.val Bd.z
          have AB : Below W27.heap.size W27 (W30.alloc (.cells #[.string ⟨#[]⟩, .string ⟨#[]⟩, .string ⟨#[]⟩, .int .i64 0] 35)) := hb.alloc hb.size _
          have K2 := Lib.hid (K.out.below AB)
          clear K hb AB
          have K := K2
          clear K2
          clear SZ
          have AG := Lib.hid (again_any t (W30.alloc (.cells #[.string ⟨#[]⟩, .string ⟨#[]⟩, .string ⟨#[]⟩, .int .i64 0] 35)) (HM.out.below K.out.be) HT.out)
          go_wp2_with fail
          refine AG.out.mono ?_
          rintro e W99 ⟨rfl, hb⟩
          have K2 := Lib.hid (K.out.below hb)
          clear K hb AG
          go_wp2_with fail
          go_ret
          exact ⟨rfl, K2.out.be⟩
      · have e0 := lrR_err hR hz
        subst e0
        clear hR
        have SZ : Hid ((⟨#[]⟩ : ByteArray).size ≤ 140737488355328) := Lib.hid (by decide)
        have z1 : ¬ ((n18 : Int) = 0) := by omega
        have z2 : ((n18 : Int) == 0) = false := by simpa using z1
        go_wp2_with fail
        refine (decodeL_any ⟨#[]⟩ W22 (HM.out.below K.out.be) SZ.out).mono ?_
        rintro e W31 ⟨vl, rfl, hv, hb⟩
        obtain ⟨za, zc, rfl⟩ := hv.slice
        clear hv
        rw [decL_not (by decide)]
        unfold Lr.val Lr.z
        simp only [List.length_nil]
        obtain ⟨Y31, hY⟩ : ∃ Y, Y = W31.alloc (.cells #[.string ⟨#[]⟩, .string ⟨#[]⟩, .slice za 0 zc] 33) := ⟨_, rfl⟩
        have AB : Below W22.heap.size W22 Y31 := by rw [hY]; exact hb.alloc hb.size _
        have K2 := Lib.hid (K.out.below AB)
        clear K hb AB
        have K := K2
        clear K2
        have hY2 := hY.symm
        clear hY
        clear SZ
        obtain ⟨t32, n32, hR⟩ : ∃ (t1 : ByteArray) (n1 : Nat), bdR b = (t1, n1) := ⟨_, _, rfl⟩
        have pc : ∀ j y, (#[.string b.p, .string b.n, .string b.s, .int .i64 b.v] : Array Value)[j]? = some y → Y31.cell? ⟨b3, j, none⟩ = some y := fun j y hy => by rw [cell_of_row Y31 b3 j _ _ _ K.out.b]; exact hy
        have p0 := pc 0 _ rfl
        have p1 := pc 1 _ rfl
        have p2 := pc 2 _ rfl
        have p3 := pc 3 _ rfl
        clear pc
        have EN := Lib.hid (encodeB_any b Y31 (HM.out.below K.out.be) H_B.out)
        rw [hR] at EN
        unfold Bd.val at EN
        simp only at EN
        go_wp2_with fail
        clear hY2
        refine EN.out.mono ?_
        rintro e W33 ⟨rfl, hb⟩
        have K2 := Lib.hid (K.out.below hb)
        clear K hb EN p0 p1 p2 p3
        have K := K2
        clear K2
        have pc : ∀ j y, (#[.string b.p, .string b.n, .string b.s, .int .i64 b.v] : Array Value)[j]? = some y → W33.cell? ⟨b3, j, none⟩ = some y := fun j y hy => by rw [cell_of_row W33 b3 j _ _ _ K.out.b]; exact hy
        have p0 := pc 0 _ rfl
        have p1 := pc 1 _ rfl
        have p2 := pc 2 _ rfl
        have p3 := pc 3 _ rfl
        clear pc
        have EN := Lib.hid (validB_any b W33 (HM.out.below K.out.be) H_B.out)
        rw [hR] at EN
        unfold Bd.val at EN
        simp only at EN
        go_wp2_with fail
        refine EN.out.mono ?_
        rintro e W34 ⟨rfl, hb⟩
        have K2 := Lib.hid (K.out.below hb)
        clear K hb EN p0 p1 p2 p3
        have K := K2
        clear K2
        by_cases hz : n32 = 0
        · subst hz
          have DD := Lib.hid (dec_encB hR)
          have LT := Lib.hid (bdR_letter hR)
          have S8 := Lib.hid (bdR_size hR)
          have SZ : Hid (t32.size ≤ 140737488355328) := Lib.hid (by have := S8.out; omega)
          clear hR
          go_wp2_with fail
          refine (decodeB_any t32 W34 (HM.out.below K.out.be) SZ.out).mono ?_
          rintro e W35 ⟨rfl, hb⟩
          rw [DD.out]
          unfold Bd.val
          simp only
          obtain ⟨Y35, hY⟩ : ∃ Y, Y = W35.alloc (.cells #[.string b.p, .string b.n, .string b.s, .int .i64 b.v] 35) := ⟨_, rfl⟩
          obtain ⟨bb, hbb⟩ : ∃ bb, bb = W35.heap.size := ⟨_, rfl⟩
          have YA : Hid (Below W35.heap.size W35 Y35 ∧ Y35.heap[bb]? = some (.cells #[.string b.p, .string b.n, .string b.s, .int .i64 b.v] 35 (0, 0))) := Lib.hid (by rw [hY, hbb]; exact ⟨(Below.refl _ _).alloc (Nat.le_refl _) _, by rw [heap_alloc_new]⟩)
          have YB := Lib.hid YA.out.2
          have K2 := Lib.hid ((K.out.below hb).below YA.out.1)
          clear K hb YA
          have K := K2
          clear K2
          have hY2 := hY.symm
          have hbb2 := hbb.symm
          clear hY hbb
          have rc9 : ∀ j y, (#[.string b.p, .string b.n, .string b.s, .int .i64 b.v] : Array Value)[j]? = some y → Y35.cell? ⟨bb, j, none⟩ = some y := fun j y hy => by rw [cell_of_row Y35 bb j _ _ _ YB.out]; exact hy
          have r0 := rc9 0 _ rfl
          have r1 := rc9 1 _ rfl
          have r2 := rc9 2 _ rfl
          have r3 := rc9 3 _ rfl
          clear rc9
          have pc : ∀ j y, (#[.string b.p, .string b.n, .string b.s, .int .i64 b.v] : Array Value)[j]? = some y → Y35.cell? ⟨b3, j, none⟩ = some y := fun j y hy => by rw [cell_of_row Y35 b3 j _ _ _ K.out.b]; exact hy
          have p0 := pc 0 _ rfl
          have p1 := pc 1 _ rfl
          have p2 := pc 2 _ rfl
          have p3 := pc 3 _ rfl
          clear pc
          clear DD LT S8 SZ
          have AG := Lib.hid (again_any t Y35 (HM.out.below K.out.be) HT.out)
          go_wp2_with fail
          clear hY2
          refine AG.out.mono ?_
          rintro e W99 ⟨rfl, hb⟩
          have K2 := Lib.hid (K.out.below hb)
          clear K hb AG
          go_wp2_with fail
          go_ret
          exact ⟨rfl, K2.out.be⟩
        · have e0 := bdR_err hR hz
          subst e0
          clear hR
          have SZ : Hid ((⟨#[]⟩ : ByteArray).size ≤ 140737488355328) := Lib.hid (by decide)
          have z1 : ¬ ((n32 : Int) = 0) := by omega
          have z2 : ((n32 : Int) == 0) = false := by simpa using z1
          go_wp2_with fail
          refine (decodeB_any ⟨#[]⟩ W34 (HM.out.below K.out.be) SZ.out).mono ?_
          rintro e W37 ⟨rfl, hb⟩
          rw [decB_not (by decide)]
          unfold Bd.val Bd.z
          have AB : Below W34.heap.size W34 (W37.alloc (.cells #[.string ⟨#[]⟩, .string ⟨#[]⟩, .string ⟨#[]⟩, .int .i64 0] 35)) := hb.alloc hb.size _
          have K2 := Lib.hid (K.out.below AB)
          clear K hb AB
          have K := K2
          clear K2
          clear SZ
          have AG := Lib.hid (again_any t (W37.alloc (.cells #[.string ⟨#[]⟩, .string ⟨#[]⟩, .string ⟨#[]⟩, .int .i64 0] 35)) (HM.out.below K.out.be) HT.out)
          go_wp2_with fail
          refine AG.out.mono ?_
          rintro e W99 ⟨rfl, hb⟩
          have K2 := Lib.hid (K.out.below hb)
          clear K hb AG
          go_wp2_with fail
          go_ret
          exact ⟨rfl, K2.out.be⟩
    · have e0 := qtR_err hR hz
      subst e0
      clear hR
      have SZ : Hid ((⟨#[]⟩ : ByteArray).size ≤ 140737488355328) := Lib.hid (by decide)
      have z1 : ¬ ((n11 : Int) = 0) := by omega
      have z2 : ((n11 : Int) == 0) = false := by simpa using z1
      go_wp2_with fail
      refine (decodeQ_any ⟨#[]⟩ W15 (HM.out.below K.out.be) SZ.out).mono ?_
      rintro e W38 ⟨vl, rfl, hv, hb⟩
      obtain ⟨za, zc, rfl⟩ := hv.slice
      clear hv
      rw [decQ_not (by decide)]
      unfold Qt.val Qt.z
      simp only [List.length_nil]
      obtain ⟨Y38, hY⟩ : ∃ Y, Y = W38.alloc (.cells #[.string ⟨#[]⟩, .string ⟨#[]⟩, .int .i64 0, .int .i64 0, .slice za 0 zc] 30) := ⟨_, rfl⟩
      have AB : Below W15.heap.size W15 Y38 := by rw [hY]; exact hb.alloc hb.size _
      have K2 := Lib.hid (K.out.below AB)
      clear K hb AB
      have K := K2
      clear K2
      have hY2 := hY.symm
      clear hY
      clear SZ
      obtain ⟨t39, n39, hR⟩ : ∃ (t1 : ByteArray) (n1 : Nat), lrR l = (t1, n1) := ⟨_, _, rfl⟩
      have pc : ∀ j y, (#[.string l.p, .string l.n, (.slice ra l.rs.length rc)] : Array Value)[j]? = some y → Y38.cell? ⟨b2, j, none⟩ = some y := fun j y hy => by rw [cell_of_row Y38 b2 j _ _ _ K.out.l]; exact hy
      have p0 := pc 0 _ rfl
      have p1 := pc 1 _ rfl
      have p2 := pc 2 _ rfl
      clear pc
      have OA := Lib.hid (ownLimit_any l _ Y38 (H_L.out.1.below K.out.be) H_L.out.2.2)
      unfold Lr.val at OA
      go_wp2_with fail
      clear hY2
      refine OA.out.mono ?_
      rintro e W40 ⟨vl, rfl, hv, hb⟩
      have K2 := Lib.hid (K.out.below hb)
      clear K hb OA p0 p1 p2
      have K := K2
      clear K2
      have EN := Lib.hid (encodeL_any l vl W40 (HM.out.below K.out.be) (hv.row okRl) H_L.out.2.1)
      rw [hR] at EN
      unfold Lr.val at EN
      simp only at EN
      clear hv
      go_wp2_with fail
      refine EN.out.mono ?_
      rintro e W41 ⟨rfl, hb⟩
      have K2 := Lib.hid (K.out.below hb)
      clear K hb EN
      have K := K2
      clear K2
      have pc : ∀ j y, (#[.string l.p, .string l.n, (.slice ra l.rs.length rc)] : Array Value)[j]? = some y → W41.cell? ⟨b2, j, none⟩ = some y := fun j y hy => by rw [cell_of_row W41 b2 j _ _ _ K.out.l]; exact hy
      have p0 := pc 0 _ rfl
      have p1 := pc 1 _ rfl
      have p2 := pc 2 _ rfl
      clear pc
      have OA := Lib.hid (ownLimit_any l _ W41 (H_L.out.1.below K.out.be) H_L.out.2.2)
      unfold Lr.val at OA
      go_wp2_with fail
      refine OA.out.mono ?_
      rintro e W42 ⟨vl, rfl, hv, hb⟩
      have K2 := Lib.hid (K.out.below hb)
      clear K hb OA p0 p1 p2
      have K := K2
      clear K2
      have EN := Lib.hid (validL_any l vl W42 (HM.out.below K.out.be) (hv.row okRl) H_L.out.2.1)
      rw [hR] at EN
      unfold Lr.val at EN
      simp only at EN
      clear hv
      go_wp2_with fail
      refine EN.out.mono ?_
      rintro e W43 ⟨rfl, hb⟩
      have K2 := Lib.hid (K.out.below hb)
      clear K hb EN
      have K := K2
      clear K2
      by_cases hz : n39 = 0
      · subst hz
        have DD := Lib.hid (dec_encL hR H_L.out.2.1)
        have LT := Lib.hid (lrR_letter hR)
        have S8 := Lib.hid (lrR_size hR)
        have SZ : Hid (t39.size ≤ 140737488355328) := Lib.hid (by have := S8.out; omega)
        clear hR
        go_wp2_with fail
        refine (decodeL_any t39 W43 (HM.out.below K.out.be) SZ.out).mono ?_
        rintro e W44 ⟨vl, rfl, hv, hb⟩
        rw [DD.out] at hv ⊢
        obtain ⟨xa, xc, rfl⟩ := hv.slice
        unfold Lr.val
        simp only
        obtain ⟨Y44, hY⟩ : ∃ Y, Y = W44.alloc (.cells #[.string l.p, .string l.n, (.slice xa l.rs.length xc)] 33) := ⟨_, rfl⟩
        obtain ⟨bb, hbb⟩ : ∃ bb, bb = W44.heap.size := ⟨_, rfl⟩
        have YA : Hid (Below W44.heap.size W44 Y44 ∧ Y44.heap[bb]? = some (.cells #[.string l.p, .string l.n, (.slice xa l.rs.length xc)] 33 (0, 0))) := Lib.hid (by rw [hY, hbb]; exact ⟨(Below.refl _ _).alloc (Nat.le_refl _) _, by rw [heap_alloc_new]⟩)
        have V := Lib.hid ((hv.row okRl).below YA.out.1)
        clear hv
        have YB := Lib.hid YA.out.2
        have K2 := Lib.hid ((K.out.below hb).below YA.out.1)
        clear K hb YA
        have K := K2
        clear K2
        have hY2 := hY.symm
        have hbb2 := hbb.symm
        clear hY hbb
        have rc9 : ∀ j y, (#[.string l.p, .string l.n, (.slice xa l.rs.length xc)] : Array Value)[j]? = some y → Y44.cell? ⟨bb, j, none⟩ = some y := fun j y hy => by rw [cell_of_row Y44 bb j _ _ _ YB.out]; exact hy
        have r0 := rc9 0 _ rfl
        have r1 := rc9 1 _ rfl
        have r2 := rc9 2 _ rfl
        clear rc9
        have pc : ∀ j y, (#[.string l.p, .string l.n, (.slice ra l.rs.length rc)] : Array Value)[j]? = some y → Y44.cell? ⟨b2, j, none⟩ = some y := fun j y hy => by rw [cell_of_row Y44 b2 j _ _ _ K.out.l]; exact hy
        have p0 := pc 0 _ rfl
        have p1 := pc 1 _ rfl
        have p2 := pc 2 _ rfl
        clear pc
        have SA := Lib.hid (sameLimit_yes l _ _ Y44 V.out (H_L.out.1.below K.out.be))
        unfold Lr.val at SA
        go_wp2_with fail
        clear hY2
        refine SA.out.mono ?_
        rintro e W399 ⟨rfl, hb⟩
        have K2 := Lib.hid (K.out.below hb)
        clear K hb SA YB V DD LT S8 SZ p0 p1 p2 r0 r1 r2
        have K := K2
        clear K2
        obtain ⟨t46, n46, hR⟩ : ∃ (t1 : ByteArray) (n1 : Nat), bdR b = (t1, n1) := ⟨_, _, rfl⟩
        have pc : ∀ j y, (#[.string b.p, .string b.n, .string b.s, .int .i64 b.v] : Array Value)[j]? = some y → W399.cell? ⟨b3, j, none⟩ = some y := fun j y hy => by rw [cell_of_row W399 b3 j _ _ _ K.out.b]; exact hy
        have p0 := pc 0 _ rfl
        have p1 := pc 1 _ rfl
        have p2 := pc 2 _ rfl
        have p3 := pc 3 _ rfl
        clear pc
        have EN := Lib.hid (encodeB_any b W399 (HM.out.below K.out.be) H_B.out)
        rw [hR] at EN
        unfold Bd.val at EN
        simp only at EN
        go_wp2_with fail
        refine EN.out.mono ?_
        rintro e W47 ⟨rfl, hb⟩
        have K2 := Lib.hid (K.out.below hb)
        clear K hb EN p0 p1 p2 p3
        have K := K2
        clear K2
        have pc : ∀ j y, (#[.string b.p, .string b.n, .string b.s, .int .i64 b.v] : Array Value)[j]? = some y → W47.cell? ⟨b3, j, none⟩ = some y := fun j y hy => by rw [cell_of_row W47 b3 j _ _ _ K.out.b]; exact hy
        have p0 := pc 0 _ rfl
        have p1 := pc 1 _ rfl
        have p2 := pc 2 _ rfl
        have p3 := pc 3 _ rfl
        clear pc
        have EN := Lib.hid (validB_any b W47 (HM.out.below K.out.be) H_B.out)
        rw [hR] at EN
        unfold Bd.val at EN
        simp only at EN
        go_wp2_with fail
        refine EN.out.mono ?_
        rintro e W48 ⟨rfl, hb⟩
        have K2 := Lib.hid (K.out.below hb)
        clear K hb EN p0 p1 p2 p3
        have K := K2
        clear K2
        by_cases hz : n46 = 0
        · subst hz
          have DD := Lib.hid (dec_encB hR)
          have LT := Lib.hid (bdR_letter hR)
          have S8 := Lib.hid (bdR_size hR)
          have SZ : Hid (t46.size ≤ 140737488355328) := Lib.hid (by have := S8.out; omega)
          clear hR
          go_wp2_with fail
          refine (decodeB_any t46 W48 (HM.out.below K.out.be) SZ.out).mono ?_
          rintro e W49 ⟨rfl, hb⟩
          rw [DD.out]
          unfold Bd.val
          simp only
          obtain ⟨Y49, hY⟩ : ∃ Y, Y = W49.alloc (.cells #[.string b.p, .string b.n, .string b.s, .int .i64 b.v] 35) := ⟨_, rfl⟩
          obtain ⟨bb, hbb⟩ : ∃ bb, bb = W49.heap.size := ⟨_, rfl⟩
          have YA : Hid (Below W49.heap.size W49 Y49 ∧ Y49.heap[bb]? = some (.cells #[.string b.p, .string b.n, .string b.s, .int .i64 b.v] 35 (0, 0))) := Lib.hid (by rw [hY, hbb]; exact ⟨(Below.refl _ _).alloc (Nat.le_refl _) _, by rw [heap_alloc_new]⟩)
          have YB := Lib.hid YA.out.2
          have K2 := Lib.hid ((K.out.below hb).below YA.out.1)
          clear K hb YA
          have K := K2
          clear K2
          have hY2 := hY.symm
          have hbb2 := hbb.symm
          clear hY hbb
          have rc9 : ∀ j y, (#[.string b.p, .string b.n, .string b.s, .int .i64 b.v] : Array Value)[j]? = some y → Y49.cell? ⟨bb, j, none⟩ = some y := fun j y hy => by rw [cell_of_row Y49 bb j _ _ _ YB.out]; exact hy
          have r0 := rc9 0 _ rfl
          have r1 := rc9 1 _ rfl
          have r2 := rc9 2 _ rfl
          have r3 := rc9 3 _ rfl
          clear rc9
          have pc : ∀ j y, (#[.string b.p, .string b.n, .string b.s, .int .i64 b.v] : Array Value)[j]? = some y → Y49.cell? ⟨b3, j, none⟩ = some y := fun j y hy => by rw [cell_of_row Y49 b3 j _ _ _ K.out.b]; exact hy
          have p0 := pc 0 _ rfl
          have p1 := pc 1 _ rfl
          have p2 := pc 2 _ rfl
          have p3 := pc 3 _ rfl
          clear pc
          clear DD LT S8 SZ
          have AG := Lib.hid (again_any t Y49 (HM.out.below K.out.be) HT.out)
          go_wp2_with fail
          clear hY2
          refine AG.out.mono ?_
          rintro e W99 ⟨rfl, hb⟩
          have K2 := Lib.hid (K.out.below hb)
          clear K hb AG
          go_wp2_with fail
          go_ret
          exact ⟨rfl, K2.out.be⟩
        · have e0 := bdR_err hR hz
          subst e0
          clear hR
          have SZ : Hid ((⟨#[]⟩ : ByteArray).size ≤ 140737488355328) := Lib.hid (by decide)
          have z1 : ¬ ((n46 : Int) = 0) := by omega
          have z2 : ((n46 : Int) == 0) = false := by simpa using z1
          go_wp2_with fail
          refine (decodeB_any ⟨#[]⟩ W48 (HM.out.below K.out.be) SZ.out).mono ?_
          rintro e W51 ⟨rfl, hb⟩
          rw [decB_not (by decide)]
          unfold Bd.val Bd.z
          have AB : Below W48.heap.size W48 (W51.alloc (.cells #[.string ⟨#[]⟩, .string ⟨#[]⟩, .string ⟨#[]⟩, .int .i64 0] 35)) := hb.alloc hb.size _
          have K2 := Lib.hid (K.out.below AB)
          clear K hb AB
          have K := K2
          clear K2
          clear SZ
          have AG := Lib.hid (again_any t (W51.alloc (.cells #[.string ⟨#[]⟩, .string ⟨#[]⟩, .string ⟨#[]⟩, .int .i64 0] 35)) (HM.out.below K.out.be) HT.out)
          go_wp2_with fail
          refine AG.out.mono ?_
          rintro e W99 ⟨rfl, hb⟩
          have K2 := Lib.hid (K.out.below hb)
          clear K hb AG
          go_wp2_with fail
          go_ret
          exact ⟨rfl, K2.out.be⟩
      · have e0 := lrR_err hR hz
        subst e0
        clear hR
        have SZ : Hid ((⟨#[]⟩ : ByteArray).size ≤ 140737488355328) := Lib.hid (by decide)
        have z1 : ¬ ((n39 : Int) = 0) := by omega
        have z2 : ((n39 : Int) == 0) = false := by simpa using z1
        go_wp2_with fail
        refine (decodeL_any ⟨#[]⟩ W43 (HM.out.below K.out.be) SZ.out).mono ?_
        rintro e W52 ⟨vl, rfl, hv, hb⟩
        obtain ⟨za, zc, rfl⟩ := hv.slice
        clear hv
        rw [decL_not (by decide)]
        unfold Lr.val Lr.z
        simp only [List.length_nil]
        obtain ⟨Y52, hY⟩ : ∃ Y, Y = W52.alloc (.cells #[.string ⟨#[]⟩, .string ⟨#[]⟩, .slice za 0 zc] 33) := ⟨_, rfl⟩
        have AB : Below W43.heap.size W43 Y52 := by rw [hY]; exact hb.alloc hb.size _
        have K2 := Lib.hid (K.out.below AB)
        clear K hb AB
        have K := K2
        clear K2
        have hY2 := hY.symm
        clear hY
        clear SZ
        obtain ⟨t53, n53, hR⟩ : ∃ (t1 : ByteArray) (n1 : Nat), bdR b = (t1, n1) := ⟨_, _, rfl⟩
        have pc : ∀ j y, (#[.string b.p, .string b.n, .string b.s, .int .i64 b.v] : Array Value)[j]? = some y → Y52.cell? ⟨b3, j, none⟩ = some y := fun j y hy => by rw [cell_of_row Y52 b3 j _ _ _ K.out.b]; exact hy
        have p0 := pc 0 _ rfl
        have p1 := pc 1 _ rfl
        have p2 := pc 2 _ rfl
        have p3 := pc 3 _ rfl
        clear pc
        have EN := Lib.hid (encodeB_any b Y52 (HM.out.below K.out.be) H_B.out)
        rw [hR] at EN
        unfold Bd.val at EN
        simp only at EN
        go_wp2_with fail
        clear hY2
        refine EN.out.mono ?_
        rintro e W54 ⟨rfl, hb⟩
        have K2 := Lib.hid (K.out.below hb)
        clear K hb EN p0 p1 p2 p3
        have K := K2
        clear K2
        have pc : ∀ j y, (#[.string b.p, .string b.n, .string b.s, .int .i64 b.v] : Array Value)[j]? = some y → W54.cell? ⟨b3, j, none⟩ = some y := fun j y hy => by rw [cell_of_row W54 b3 j _ _ _ K.out.b]; exact hy
        have p0 := pc 0 _ rfl
        have p1 := pc 1 _ rfl
        have p2 := pc 2 _ rfl
        have p3 := pc 3 _ rfl
        clear pc
        have EN := Lib.hid (validB_any b W54 (HM.out.below K.out.be) H_B.out)
        rw [hR] at EN
        unfold Bd.val at EN
        simp only at EN
        go_wp2_with fail
        refine EN.out.mono ?_
        rintro e W55 ⟨rfl, hb⟩
        have K2 := Lib.hid (K.out.below hb)
        clear K hb EN p0 p1 p2 p3
        have K := K2
        clear K2
        by_cases hz : n53 = 0
        · subst hz
          have DD := Lib.hid (dec_encB hR)
          have LT := Lib.hid (bdR_letter hR)
          have S8 := Lib.hid (bdR_size hR)
          have SZ : Hid (t53.size ≤ 140737488355328) := Lib.hid (by have := S8.out; omega)
          clear hR
          go_wp2_with fail
          refine (decodeB_any t53 W55 (HM.out.below K.out.be) SZ.out).mono ?_
          rintro e W56 ⟨rfl, hb⟩
          rw [DD.out]
          unfold Bd.val
          simp only
          obtain ⟨Y56, hY⟩ : ∃ Y, Y = W56.alloc (.cells #[.string b.p, .string b.n, .string b.s, .int .i64 b.v] 35) := ⟨_, rfl⟩
          obtain ⟨bb, hbb⟩ : ∃ bb, bb = W56.heap.size := ⟨_, rfl⟩
          have YA : Hid (Below W56.heap.size W56 Y56 ∧ Y56.heap[bb]? = some (.cells #[.string b.p, .string b.n, .string b.s, .int .i64 b.v] 35 (0, 0))) := Lib.hid (by rw [hY, hbb]; exact ⟨(Below.refl _ _).alloc (Nat.le_refl _) _, by rw [heap_alloc_new]⟩)
          have YB := Lib.hid YA.out.2
          have K2 := Lib.hid ((K.out.below hb).below YA.out.1)
          clear K hb YA
          have K := K2
          clear K2
          have hY2 := hY.symm
          have hbb2 := hbb.symm
          clear hY hbb
          have rc9 : ∀ j y, (#[.string b.p, .string b.n, .string b.s, .int .i64 b.v] : Array Value)[j]? = some y → Y56.cell? ⟨bb, j, none⟩ = some y := fun j y hy => by rw [cell_of_row Y56 bb j _ _ _ YB.out]; exact hy
          have r0 := rc9 0 _ rfl
          have r1 := rc9 1 _ rfl
          have r2 := rc9 2 _ rfl
          have r3 := rc9 3 _ rfl
          clear rc9
          have pc : ∀ j y, (#[.string b.p, .string b.n, .string b.s, .int .i64 b.v] : Array Value)[j]? = some y → Y56.cell? ⟨b3, j, none⟩ = some y := fun j y hy => by rw [cell_of_row Y56 b3 j _ _ _ K.out.b]; exact hy
          have p0 := pc 0 _ rfl
          have p1 := pc 1 _ rfl
          have p2 := pc 2 _ rfl
          have p3 := pc 3 _ rfl
          clear pc
          clear DD LT S8 SZ
          have AG := Lib.hid (again_any t Y56 (HM.out.below K.out.be) HT.out)
          go_wp2_with fail
          clear hY2
          refine AG.out.mono ?_
          rintro e W99 ⟨rfl, hb⟩
          have K2 := Lib.hid (K.out.below hb)
          clear K hb AG
          go_wp2_with fail
          go_ret
          exact ⟨rfl, K2.out.be⟩
        · have e0 := bdR_err hR hz
          subst e0
          clear hR
          have SZ : Hid ((⟨#[]⟩ : ByteArray).size ≤ 140737488355328) := Lib.hid (by decide)
          have z1 : ¬ ((n53 : Int) = 0) := by omega
          have z2 : ((n53 : Int) == 0) = false := by simpa using z1
          go_wp2_with fail
          refine (decodeB_any ⟨#[]⟩ W55 (HM.out.below K.out.be) SZ.out).mono ?_
          rintro e W58 ⟨rfl, hb⟩
          rw [decB_not (by decide)]
          unfold Bd.val Bd.z
          have AB : Below W55.heap.size W55 (W58.alloc (.cells #[.string ⟨#[]⟩, .string ⟨#[]⟩, .string ⟨#[]⟩, .int .i64 0] 35)) := hb.alloc hb.size _
          have K2 := Lib.hid (K.out.below AB)
          clear K hb AB
          have K := K2
          clear K2
          clear SZ
          have AG := Lib.hid (again_any t (W58.alloc (.cells #[.string ⟨#[]⟩, .string ⟨#[]⟩, .string ⟨#[]⟩, .int .i64 0] 35)) (HM.out.below K.out.be) HT.out)
          go_wp2_with fail
          refine AG.out.mono ?_
          rintro e W99 ⟨rfl, hb⟩
          have K2 := Lib.hid (K.out.below hb)
          clear K hb AG
          go_wp2_with fail
          go_ret
          exact ⟨rfl, K2.out.be⟩
  · have e0 := obR_err hR hz
    subst e0
    clear hR
    have SZ : Hid ((⟨#[]⟩ : ByteArray).size ≤ 140737488355328) := Lib.hid (by decide)
    have z1 : ¬ ((n1 : Int) = 0) := by omega
    have z2 : ((n1 : Int) == 0) = false := by simpa using z1
    clear SZ
    obtain ⟨t59, n59, hR⟩ : ∃ (t1 : ByteArray) (n1 : Nat), qtR q = (t1, n1) := ⟨_, _, rfl⟩
    have pc : ∀ j y, (#[.string q.p, .string q.n, .int .i64 q.k, .int .i64 q.a, (.slice qa q.h.length qc)] : Array Value)[j]? = some y → W5.cell? ⟨b1, j, none⟩ = some y := fun j y hy => by rw [cell_of_row W5 b1 j _ _ _ K.out.q]; exact hy
    have p0 := pc 0 _ rfl
    have p1 := pc 1 _ rfl
    have p2 := pc 2 _ rfl
    have p3 := pc 3 _ rfl
    have p4 := pc 4 _ rfl
    clear pc
    have OA := Lib.hid (ownQuota_any q _ W5 (H_Q.out.1.below K.out.be) H_Q.out.2.2)
    unfold Qt.val at OA
    go_wp2_with fail
    refine OA.out.mono ?_
    rintro e W60 ⟨vl, rfl, hv, hb⟩
    have K2 := Lib.hid (K.out.below hb)
    clear K hb OA p0 p1 p2 p3 p4
    have K := K2
    clear K2
    have EN := Lib.hid (encodeQ_any q vl W60 (HM.out.below K.out.be) (hv.row okAm) H_Q.out.2.1)
    rw [hR] at EN
    unfold Qt.val at EN
    simp only at EN
    clear hv
    go_wp2_with fail
    refine EN.out.mono ?_
    rintro e W61 ⟨rfl, hb⟩
    have K2 := Lib.hid (K.out.below hb)
    clear K hb EN
    have K := K2
    clear K2
    have pc : ∀ j y, (#[.string q.p, .string q.n, .int .i64 q.k, .int .i64 q.a, (.slice qa q.h.length qc)] : Array Value)[j]? = some y → W61.cell? ⟨b1, j, none⟩ = some y := fun j y hy => by rw [cell_of_row W61 b1 j _ _ _ K.out.q]; exact hy
    have p0 := pc 0 _ rfl
    have p1 := pc 1 _ rfl
    have p2 := pc 2 _ rfl
    have p3 := pc 3 _ rfl
    have p4 := pc 4 _ rfl
    clear pc
    have OA := Lib.hid (ownQuota_any q _ W61 (H_Q.out.1.below K.out.be) H_Q.out.2.2)
    unfold Qt.val at OA
    go_wp2_with fail
    refine OA.out.mono ?_
    rintro e W62 ⟨vl, rfl, hv, hb⟩
    have K2 := Lib.hid (K.out.below hb)
    clear K hb OA p0 p1 p2 p3 p4
    have K := K2
    clear K2
    have EN := Lib.hid (validQ_any q vl W62 (HM.out.below K.out.be) (hv.row okAm) H_Q.out.2.1)
    rw [hR] at EN
    unfold Qt.val at EN
    simp only at EN
    clear hv
    go_wp2_with fail
    refine EN.out.mono ?_
    rintro e W63 ⟨rfl, hb⟩
    have K2 := Lib.hid (K.out.below hb)
    clear K hb EN
    have K := K2
    clear K2
    by_cases hz : n59 = 0
    · subst hz
      have DD := Lib.hid (dec_encQ hR H_Q.out.2.1)
      have LT := Lib.hid (qtR_letter hR)
      have S8 := Lib.hid (qtR_size hR)
      have SZ : Hid (t59.size ≤ 140737488355328) := Lib.hid (by have := S8.out; omega)
      clear hR
      go_wp2_with fail
      refine (decodeQ_any t59 W63 (HM.out.below K.out.be) SZ.out).mono ?_
      rintro e W64 ⟨vl, rfl, hv, hb⟩
      rw [DD.out] at hv ⊢
      obtain ⟨xa, xc, rfl⟩ := hv.slice
      unfold Qt.val
      simp only
      obtain ⟨Y64, hY⟩ : ∃ Y, Y = W64.alloc (.cells #[.string q.p, .string q.n, .int .i64 q.k, .int .i64 q.a, (.slice xa q.h.length xc)] 30) := ⟨_, rfl⟩
      obtain ⟨bb, hbb⟩ : ∃ bb, bb = W64.heap.size := ⟨_, rfl⟩
      have YA : Hid (Below W64.heap.size W64 Y64 ∧ Y64.heap[bb]? = some (.cells #[.string q.p, .string q.n, .int .i64 q.k, .int .i64 q.a, (.slice xa q.h.length xc)] 30 (0, 0))) := Lib.hid (by rw [hY, hbb]; exact ⟨(Below.refl _ _).alloc (Nat.le_refl _) _, by rw [heap_alloc_new]⟩)
      have V := Lib.hid ((hv.row okAm).below YA.out.1)
      clear hv
      have YB := Lib.hid YA.out.2
      have K2 := Lib.hid ((K.out.below hb).below YA.out.1)
      clear K hb YA
      have K := K2
      clear K2
      have hY2 := hY.symm
      have hbb2 := hbb.symm
      clear hY hbb
      have rc9 : ∀ j y, (#[.string q.p, .string q.n, .int .i64 q.k, .int .i64 q.a, (.slice xa q.h.length xc)] : Array Value)[j]? = some y → Y64.cell? ⟨bb, j, none⟩ = some y := fun j y hy => by rw [cell_of_row Y64 bb j _ _ _ YB.out]; exact hy
      have r0 := rc9 0 _ rfl
      have r1 := rc9 1 _ rfl
      have r2 := rc9 2 _ rfl
      have r3 := rc9 3 _ rfl
      have r4 := rc9 4 _ rfl
      clear rc9
      have pc : ∀ j y, (#[.string q.p, .string q.n, .int .i64 q.k, .int .i64 q.a, (.slice qa q.h.length qc)] : Array Value)[j]? = some y → Y64.cell? ⟨b1, j, none⟩ = some y := fun j y hy => by rw [cell_of_row Y64 b1 j _ _ _ K.out.q]; exact hy
      have p0 := pc 0 _ rfl
      have p1 := pc 1 _ rfl
      have p2 := pc 2 _ rfl
      have p3 := pc 3 _ rfl
      have p4 := pc 4 _ rfl
      clear pc
      have SA := Lib.hid (sameQuota_yes q _ _ Y64 V.out (H_Q.out.1.below K.out.be))
      unfold Qt.val at SA
      go_wp2_with fail
      clear hY2
      refine SA.out.mono ?_
      rintro e W599 ⟨rfl, hb⟩
      have K2 := Lib.hid (K.out.below hb)
      clear K hb SA YB V DD LT S8 SZ p0 p1 p2 p3 p4 r0 r1 r2 r3 r4
      have K := K2
      clear K2
      obtain ⟨t66, n66, hR⟩ : ∃ (t1 : ByteArray) (n1 : Nat), lrR l = (t1, n1) := ⟨_, _, rfl⟩
      have pc : ∀ j y, (#[.string l.p, .string l.n, (.slice ra l.rs.length rc)] : Array Value)[j]? = some y → W599.cell? ⟨b2, j, none⟩ = some y := fun j y hy => by rw [cell_of_row W599 b2 j _ _ _ K.out.l]; exact hy
      have p0 := pc 0 _ rfl
      have p1 := pc 1 _ rfl
      have p2 := pc 2 _ rfl
      clear pc
      have OA := Lib.hid (ownLimit_any l _ W599 (H_L.out.1.below K.out.be) H_L.out.2.2)
      unfold Lr.val at OA
      go_wp2_with fail
      refine OA.out.mono ?_
      rintro e W67 ⟨vl, rfl, hv, hb⟩
      have K2 := Lib.hid (K.out.below hb)
      clear K hb OA p0 p1 p2
      have K := K2
      clear K2
      have EN := Lib.hid (encodeL_any l vl W67 (HM.out.below K.out.be) (hv.row okRl) H_L.out.2.1)
      rw [hR] at EN
      unfold Lr.val at EN
      simp only at EN
      clear hv
      go_wp2_with fail
      refine EN.out.mono ?_
      rintro e W68 ⟨rfl, hb⟩
      have K2 := Lib.hid (K.out.below hb)
      clear K hb EN
      have K := K2
      clear K2
      have pc : ∀ j y, (#[.string l.p, .string l.n, (.slice ra l.rs.length rc)] : Array Value)[j]? = some y → W68.cell? ⟨b2, j, none⟩ = some y := fun j y hy => by rw [cell_of_row W68 b2 j _ _ _ K.out.l]; exact hy
      have p0 := pc 0 _ rfl
      have p1 := pc 1 _ rfl
      have p2 := pc 2 _ rfl
      clear pc
      have OA := Lib.hid (ownLimit_any l _ W68 (H_L.out.1.below K.out.be) H_L.out.2.2)
      unfold Lr.val at OA
      go_wp2_with fail
      refine OA.out.mono ?_
      rintro e W69 ⟨vl, rfl, hv, hb⟩
      have K2 := Lib.hid (K.out.below hb)
      clear K hb OA p0 p1 p2
      have K := K2
      clear K2
      have EN := Lib.hid (validL_any l vl W69 (HM.out.below K.out.be) (hv.row okRl) H_L.out.2.1)
      rw [hR] at EN
      unfold Lr.val at EN
      simp only at EN
      clear hv
      go_wp2_with fail
      refine EN.out.mono ?_
      rintro e W70 ⟨rfl, hb⟩
      have K2 := Lib.hid (K.out.below hb)
      clear K hb EN
      have K := K2
      clear K2
      by_cases hz : n66 = 0
      · subst hz
        have DD := Lib.hid (dec_encL hR H_L.out.2.1)
        have LT := Lib.hid (lrR_letter hR)
        have S8 := Lib.hid (lrR_size hR)
        have SZ : Hid (t66.size ≤ 140737488355328) := Lib.hid (by have := S8.out; omega)
        clear hR
        go_wp2_with fail
        refine (decodeL_any t66 W70 (HM.out.below K.out.be) SZ.out).mono ?_
        rintro e W71 ⟨vl, rfl, hv, hb⟩
        rw [DD.out] at hv ⊢
        obtain ⟨xa, xc, rfl⟩ := hv.slice
        unfold Lr.val
        simp only
        obtain ⟨Y71, hY⟩ : ∃ Y, Y = W71.alloc (.cells #[.string l.p, .string l.n, (.slice xa l.rs.length xc)] 33) := ⟨_, rfl⟩
        obtain ⟨bb, hbb⟩ : ∃ bb, bb = W71.heap.size := ⟨_, rfl⟩
        have YA : Hid (Below W71.heap.size W71 Y71 ∧ Y71.heap[bb]? = some (.cells #[.string l.p, .string l.n, (.slice xa l.rs.length xc)] 33 (0, 0))) := Lib.hid (by rw [hY, hbb]; exact ⟨(Below.refl _ _).alloc (Nat.le_refl _) _, by rw [heap_alloc_new]⟩)
        have V := Lib.hid ((hv.row okRl).below YA.out.1)
        clear hv
        have YB := Lib.hid YA.out.2
        have K2 := Lib.hid ((K.out.below hb).below YA.out.1)
        clear K hb YA
        have K := K2
        clear K2
        have hY2 := hY.symm
        have hbb2 := hbb.symm
        clear hY hbb
        have rc9 : ∀ j y, (#[.string l.p, .string l.n, (.slice xa l.rs.length xc)] : Array Value)[j]? = some y → Y71.cell? ⟨bb, j, none⟩ = some y := fun j y hy => by rw [cell_of_row Y71 bb j _ _ _ YB.out]; exact hy
        have r0 := rc9 0 _ rfl
        have r1 := rc9 1 _ rfl
        have r2 := rc9 2 _ rfl
        clear rc9
        have pc : ∀ j y, (#[.string l.p, .string l.n, (.slice ra l.rs.length rc)] : Array Value)[j]? = some y → Y71.cell? ⟨b2, j, none⟩ = some y := fun j y hy => by rw [cell_of_row Y71 b2 j _ _ _ K.out.l]; exact hy
        have p0 := pc 0 _ rfl
        have p1 := pc 1 _ rfl
        have p2 := pc 2 _ rfl
        clear pc
        have SA := Lib.hid (sameLimit_yes l _ _ Y71 V.out (H_L.out.1.below K.out.be))
        unfold Lr.val at SA
        go_wp2_with fail
        clear hY2
        refine SA.out.mono ?_
        rintro e W669 ⟨rfl, hb⟩
        have K2 := Lib.hid (K.out.below hb)
        clear K hb SA YB V DD LT S8 SZ p0 p1 p2 r0 r1 r2
        have K := K2
        clear K2
        obtain ⟨t73, n73, hR⟩ : ∃ (t1 : ByteArray) (n1 : Nat), bdR b = (t1, n1) := ⟨_, _, rfl⟩
        have pc : ∀ j y, (#[.string b.p, .string b.n, .string b.s, .int .i64 b.v] : Array Value)[j]? = some y → W669.cell? ⟨b3, j, none⟩ = some y := fun j y hy => by rw [cell_of_row W669 b3 j _ _ _ K.out.b]; exact hy
        have p0 := pc 0 _ rfl
        have p1 := pc 1 _ rfl
        have p2 := pc 2 _ rfl
        have p3 := pc 3 _ rfl
        clear pc
        have EN := Lib.hid (encodeB_any b W669 (HM.out.below K.out.be) H_B.out)
        rw [hR] at EN
        unfold Bd.val at EN
        simp only at EN
        go_wp2_with fail
        refine EN.out.mono ?_
        rintro e W74 ⟨rfl, hb⟩
        have K2 := Lib.hid (K.out.below hb)
        clear K hb EN p0 p1 p2 p3
        have K := K2
        clear K2
        have pc : ∀ j y, (#[.string b.p, .string b.n, .string b.s, .int .i64 b.v] : Array Value)[j]? = some y → W74.cell? ⟨b3, j, none⟩ = some y := fun j y hy => by rw [cell_of_row W74 b3 j _ _ _ K.out.b]; exact hy
        have p0 := pc 0 _ rfl
        have p1 := pc 1 _ rfl
        have p2 := pc 2 _ rfl
        have p3 := pc 3 _ rfl
        clear pc
        have EN := Lib.hid (validB_any b W74 (HM.out.below K.out.be) H_B.out)
        rw [hR] at EN
        unfold Bd.val at EN
        simp only at EN
        go_wp2_with fail
        refine EN.out.mono ?_
        rintro e W75 ⟨rfl, hb⟩
        have K2 := Lib.hid (K.out.below hb)
        clear K hb EN p0 p1 p2 p3
        have K := K2
        clear K2
        by_cases hz : n73 = 0
        · subst hz
          have DD := Lib.hid (dec_encB hR)
          have LT := Lib.hid (bdR_letter hR)
          have S8 := Lib.hid (bdR_size hR)
          have SZ : Hid (t73.size ≤ 140737488355328) := Lib.hid (by have := S8.out; omega)
          clear hR
          go_wp2_with fail
          refine (decodeB_any t73 W75 (HM.out.below K.out.be) SZ.out).mono ?_
          rintro e W76 ⟨rfl, hb⟩
          rw [DD.out]
          unfold Bd.val
          simp only
          obtain ⟨Y76, hY⟩ : ∃ Y, Y = W76.alloc (.cells #[.string b.p, .string b.n, .string b.s, .int .i64 b.v] 35) := ⟨_, rfl⟩
          obtain ⟨bb, hbb⟩ : ∃ bb, bb = W76.heap.size := ⟨_, rfl⟩
          have YA : Hid (Below W76.heap.size W76 Y76 ∧ Y76.heap[bb]? = some (.cells #[.string b.p, .string b.n, .string b.s, .int .i64 b.v] 35 (0, 0))) := Lib.hid (by rw [hY, hbb]; exact ⟨(Below.refl _ _).alloc (Nat.le_refl _) _, by rw [heap_alloc_new]⟩)
          have YB := Lib.hid YA.out.2
          have K2 := Lib.hid ((K.out.below hb).below YA.out.1)
          clear K hb YA
          have K := K2
          clear K2
          have hY2 := hY.symm
          have hbb2 := hbb.symm
          clear hY hbb
          have rc9 : ∀ j y, (#[.string b.p, .string b.n, .string b.s, .int .i64 b.v] : Array Value)[j]? = some y → Y76.cell? ⟨bb, j, none⟩ = some y := fun j y hy => by rw [cell_of_row Y76 bb j _ _ _ YB.out]; exact hy
          have r0 := rc9 0 _ rfl
          have r1 := rc9 1 _ rfl
          have r2 := rc9 2 _ rfl
          have r3 := rc9 3 _ rfl
          clear rc9
          have pc : ∀ j y, (#[.string b.p, .string b.n, .string b.s, .int .i64 b.v] : Array Value)[j]? = some y → Y76.cell? ⟨b3, j, none⟩ = some y := fun j y hy => by rw [cell_of_row Y76 b3 j _ _ _ K.out.b]; exact hy
          have p0 := pc 0 _ rfl
          have p1 := pc 1 _ rfl
          have p2 := pc 2 _ rfl
          have p3 := pc 3 _ rfl
          clear pc
          clear DD LT S8 SZ
          have AG := Lib.hid (again_any t Y76 (HM.out.below K.out.be) HT.out)
          go_wp2_with fail
          clear hY2
          refine AG.out.mono ?_
          rintro e W99 ⟨rfl, hb⟩
          have K2 := Lib.hid (K.out.below hb)
          clear K hb AG
          go_wp2_with fail
          go_ret
          exact ⟨rfl, K2.out.be⟩
        · have e0 := bdR_err hR hz
          subst e0
          clear hR
          have SZ : Hid ((⟨#[]⟩ : ByteArray).size ≤ 140737488355328) := Lib.hid (by decide)
          have z1 : ¬ ((n73 : Int) = 0) := by omega
          have z2 : ((n73 : Int) == 0) = false := by simpa using z1
          go_wp2_with fail
          refine (decodeB_any ⟨#[]⟩ W75 (HM.out.below K.out.be) SZ.out).mono ?_
          rintro e W78 ⟨rfl, hb⟩
          rw [decB_not (by decide)]
          unfold Bd.val Bd.z
          have AB : Below W75.heap.size W75 (W78.alloc (.cells #[.string ⟨#[]⟩, .string ⟨#[]⟩, .string ⟨#[]⟩, .int .i64 0] 35)) := hb.alloc hb.size _
          have K2 := Lib.hid (K.out.below AB)
          clear K hb AB
          have K := K2
          clear K2
          clear SZ
          have AG := Lib.hid (again_any t (W78.alloc (.cells #[.string ⟨#[]⟩, .string ⟨#[]⟩, .string ⟨#[]⟩, .int .i64 0] 35)) (HM.out.below K.out.be) HT.out)
          go_wp2_with fail
          refine AG.out.mono ?_
          rintro e W99 ⟨rfl, hb⟩
          have K2 := Lib.hid (K.out.below hb)
          clear K hb AG
          go_wp2_with fail
          go_ret
          exact ⟨rfl, K2.out.be⟩
      · have e0 := lrR_err hR hz
        subst e0
        clear hR
        have SZ : Hid ((⟨#[]⟩ : ByteArray).size ≤ 140737488355328) := Lib.hid (by decide)
        have z1 : ¬ ((n66 : Int) = 0) := by omega
        have z2 : ((n66 : Int) == 0) = false := by simpa using z1
        go_wp2_with fail
        refine (decodeL_any ⟨#[]⟩ W70 (HM.out.below K.out.be) SZ.out).mono ?_
        rintro e W79 ⟨vl, rfl, hv, hb⟩
        obtain ⟨za, zc, rfl⟩ := hv.slice
        clear hv
        rw [decL_not (by decide)]
        unfold Lr.val Lr.z
        simp only [List.length_nil]
        obtain ⟨Y79, hY⟩ : ∃ Y, Y = W79.alloc (.cells #[.string ⟨#[]⟩, .string ⟨#[]⟩, .slice za 0 zc] 33) := ⟨_, rfl⟩
        have AB : Below W70.heap.size W70 Y79 := by rw [hY]; exact hb.alloc hb.size _
        have K2 := Lib.hid (K.out.below AB)
        clear K hb AB
        have K := K2
        clear K2
        have hY2 := hY.symm
        clear hY
        clear SZ
        obtain ⟨t80, n80, hR⟩ : ∃ (t1 : ByteArray) (n1 : Nat), bdR b = (t1, n1) := ⟨_, _, rfl⟩
        have pc : ∀ j y, (#[.string b.p, .string b.n, .string b.s, .int .i64 b.v] : Array Value)[j]? = some y → Y79.cell? ⟨b3, j, none⟩ = some y := fun j y hy => by rw [cell_of_row Y79 b3 j _ _ _ K.out.b]; exact hy
        have p0 := pc 0 _ rfl
        have p1 := pc 1 _ rfl
        have p2 := pc 2 _ rfl
        have p3 := pc 3 _ rfl
        clear pc
        have EN := Lib.hid (encodeB_any b Y79 (HM.out.below K.out.be) H_B.out)
        rw [hR] at EN
        unfold Bd.val at EN
        simp only at EN
        go_wp2_with fail
        clear hY2
        refine EN.out.mono ?_
        rintro e W81 ⟨rfl, hb⟩
        have K2 := Lib.hid (K.out.below hb)
        clear K hb EN p0 p1 p2 p3
        have K := K2
        clear K2
        have pc : ∀ j y, (#[.string b.p, .string b.n, .string b.s, .int .i64 b.v] : Array Value)[j]? = some y → W81.cell? ⟨b3, j, none⟩ = some y := fun j y hy => by rw [cell_of_row W81 b3 j _ _ _ K.out.b]; exact hy
        have p0 := pc 0 _ rfl
        have p1 := pc 1 _ rfl
        have p2 := pc 2 _ rfl
        have p3 := pc 3 _ rfl
        clear pc
        have EN := Lib.hid (validB_any b W81 (HM.out.below K.out.be) H_B.out)
        rw [hR] at EN
        unfold Bd.val at EN
        simp only at EN
        go_wp2_with fail
        refine EN.out.mono ?_
        rintro e W82 ⟨rfl, hb⟩
        have K2 := Lib.hid (K.out.below hb)
        clear K hb EN p0 p1 p2 p3
        have K := K2
        clear K2
        by_cases hz : n80 = 0
        · subst hz
          have DD := Lib.hid (dec_encB hR)
          have LT := Lib.hid (bdR_letter hR)
          have S8 := Lib.hid (bdR_size hR)
          have SZ : Hid (t80.size ≤ 140737488355328) := Lib.hid (by have := S8.out; omega)
          clear hR
          go_wp2_with fail
          refine (decodeB_any t80 W82 (HM.out.below K.out.be) SZ.out).mono ?_
          rintro e W83 ⟨rfl, hb⟩
          rw [DD.out]
          unfold Bd.val
          simp only
          obtain ⟨Y83, hY⟩ : ∃ Y, Y = W83.alloc (.cells #[.string b.p, .string b.n, .string b.s, .int .i64 b.v] 35) := ⟨_, rfl⟩
          obtain ⟨bb, hbb⟩ : ∃ bb, bb = W83.heap.size := ⟨_, rfl⟩
          have YA : Hid (Below W83.heap.size W83 Y83 ∧ Y83.heap[bb]? = some (.cells #[.string b.p, .string b.n, .string b.s, .int .i64 b.v] 35 (0, 0))) := Lib.hid (by rw [hY, hbb]; exact ⟨(Below.refl _ _).alloc (Nat.le_refl _) _, by rw [heap_alloc_new]⟩)
          have YB := Lib.hid YA.out.2
          have K2 := Lib.hid ((K.out.below hb).below YA.out.1)
          clear K hb YA
          have K := K2
          clear K2
          have hY2 := hY.symm
          have hbb2 := hbb.symm
          clear hY hbb
          have rc9 : ∀ j y, (#[.string b.p, .string b.n, .string b.s, .int .i64 b.v] : Array Value)[j]? = some y → Y83.cell? ⟨bb, j, none⟩ = some y := fun j y hy => by rw [cell_of_row Y83 bb j _ _ _ YB.out]; exact hy
          have r0 := rc9 0 _ rfl
          have r1 := rc9 1 _ rfl
          have r2 := rc9 2 _ rfl
          have r3 := rc9 3 _ rfl
          clear rc9
          have pc : ∀ j y, (#[.string b.p, .string b.n, .string b.s, .int .i64 b.v] : Array Value)[j]? = some y → Y83.cell? ⟨b3, j, none⟩ = some y := fun j y hy => by rw [cell_of_row Y83 b3 j _ _ _ K.out.b]; exact hy
          have p0 := pc 0 _ rfl
          have p1 := pc 1 _ rfl
          have p2 := pc 2 _ rfl
          have p3 := pc 3 _ rfl
          clear pc
          clear DD LT S8 SZ
          have AG := Lib.hid (again_any t Y83 (HM.out.below K.out.be) HT.out)
          go_wp2_with fail
          clear hY2
          refine AG.out.mono ?_
          rintro e W99 ⟨rfl, hb⟩
          have K2 := Lib.hid (K.out.below hb)
          clear K hb AG
          go_wp2_with fail
          go_ret
          exact ⟨rfl, K2.out.be⟩
        · have e0 := bdR_err hR hz
          subst e0
          clear hR
          have SZ : Hid ((⟨#[]⟩ : ByteArray).size ≤ 140737488355328) := Lib.hid (by decide)
          have z1 : ¬ ((n80 : Int) = 0) := by omega
          have z2 : ((n80 : Int) == 0) = false := by simpa using z1
          go_wp2_with fail
          refine (decodeB_any ⟨#[]⟩ W82 (HM.out.below K.out.be) SZ.out).mono ?_
          rintro e W85 ⟨rfl, hb⟩
          rw [decB_not (by decide)]
          unfold Bd.val Bd.z
          have AB : Below W82.heap.size W82 (W85.alloc (.cells #[.string ⟨#[]⟩, .string ⟨#[]⟩, .string ⟨#[]⟩, .int .i64 0] 35)) := hb.alloc hb.size _
          have K2 := Lib.hid (K.out.below AB)
          clear K hb AB
          have K := K2
          clear K2
          clear SZ
          have AG := Lib.hid (again_any t (W85.alloc (.cells #[.string ⟨#[]⟩, .string ⟨#[]⟩, .string ⟨#[]⟩, .int .i64 0] 35)) (HM.out.below K.out.be) HT.out)
          go_wp2_with fail
          refine AG.out.mono ?_
          rintro e W99 ⟨rfl, hb⟩
          have K2 := Lib.hid (K.out.below hb)
          clear K hb AG
          go_wp2_with fail
          go_ret
          exact ⟨rfl, K2.out.be⟩
    · have e0 := qtR_err hR hz
      subst e0
      clear hR
      have SZ : Hid ((⟨#[]⟩ : ByteArray).size ≤ 140737488355328) := Lib.hid (by decide)
      have z1 : ¬ ((n59 : Int) = 0) := by omega
      have z2 : ((n59 : Int) == 0) = false := by simpa using z1
      go_wp2_with fail
      refine (decodeQ_any ⟨#[]⟩ W63 (HM.out.below K.out.be) SZ.out).mono ?_
      rintro e W86 ⟨vl, rfl, hv, hb⟩
      obtain ⟨za, zc, rfl⟩ := hv.slice
      clear hv
      rw [decQ_not (by decide)]
      unfold Qt.val Qt.z
      simp only [List.length_nil]
      obtain ⟨Y86, hY⟩ : ∃ Y, Y = W86.alloc (.cells #[.string ⟨#[]⟩, .string ⟨#[]⟩, .int .i64 0, .int .i64 0, .slice za 0 zc] 30) := ⟨_, rfl⟩
      have AB : Below W63.heap.size W63 Y86 := by rw [hY]; exact hb.alloc hb.size _
      have K2 := Lib.hid (K.out.below AB)
      clear K hb AB
      have K := K2
      clear K2
      have hY2 := hY.symm
      clear hY
      clear SZ
      obtain ⟨t87, n87, hR⟩ : ∃ (t1 : ByteArray) (n1 : Nat), lrR l = (t1, n1) := ⟨_, _, rfl⟩
      have pc : ∀ j y, (#[.string l.p, .string l.n, (.slice ra l.rs.length rc)] : Array Value)[j]? = some y → Y86.cell? ⟨b2, j, none⟩ = some y := fun j y hy => by rw [cell_of_row Y86 b2 j _ _ _ K.out.l]; exact hy
      have p0 := pc 0 _ rfl
      have p1 := pc 1 _ rfl
      have p2 := pc 2 _ rfl
      clear pc
      have OA := Lib.hid (ownLimit_any l _ Y86 (H_L.out.1.below K.out.be) H_L.out.2.2)
      unfold Lr.val at OA
      go_wp2_with fail
      clear hY2
      refine OA.out.mono ?_
      rintro e W88 ⟨vl, rfl, hv, hb⟩
      have K2 := Lib.hid (K.out.below hb)
      clear K hb OA p0 p1 p2
      have K := K2
      clear K2
      have EN := Lib.hid (encodeL_any l vl W88 (HM.out.below K.out.be) (hv.row okRl) H_L.out.2.1)
      rw [hR] at EN
      unfold Lr.val at EN
      simp only at EN
      clear hv
      go_wp2_with fail
      refine EN.out.mono ?_
      rintro e W89 ⟨rfl, hb⟩
      have K2 := Lib.hid (K.out.below hb)
      clear K hb EN
      have K := K2
      clear K2
      have pc : ∀ j y, (#[.string l.p, .string l.n, (.slice ra l.rs.length rc)] : Array Value)[j]? = some y → W89.cell? ⟨b2, j, none⟩ = some y := fun j y hy => by rw [cell_of_row W89 b2 j _ _ _ K.out.l]; exact hy
      have p0 := pc 0 _ rfl
      have p1 := pc 1 _ rfl
      have p2 := pc 2 _ rfl
      clear pc
      have OA := Lib.hid (ownLimit_any l _ W89 (H_L.out.1.below K.out.be) H_L.out.2.2)
      unfold Lr.val at OA
      go_wp2_with fail
      refine OA.out.mono ?_
      rintro e W90 ⟨vl, rfl, hv, hb⟩
      have K2 := Lib.hid (K.out.below hb)
      clear K hb OA p0 p1 p2
      have K := K2
      clear K2
      have EN := Lib.hid (validL_any l vl W90 (HM.out.below K.out.be) (hv.row okRl) H_L.out.2.1)
      rw [hR] at EN
      unfold Lr.val at EN
      simp only at EN
      clear hv
      go_wp2_with fail
      refine EN.out.mono ?_
      rintro e W91 ⟨rfl, hb⟩
      have K2 := Lib.hid (K.out.below hb)
      clear K hb EN
      have K := K2
      clear K2
      by_cases hz : n87 = 0
      · subst hz
        have DD := Lib.hid (dec_encL hR H_L.out.2.1)
        have LT := Lib.hid (lrR_letter hR)
        have S8 := Lib.hid (lrR_size hR)
        have SZ : Hid (t87.size ≤ 140737488355328) := Lib.hid (by have := S8.out; omega)
        clear hR
        go_wp2_with fail
        refine (decodeL_any t87 W91 (HM.out.below K.out.be) SZ.out).mono ?_
        rintro e W92 ⟨vl, rfl, hv, hb⟩
        rw [DD.out] at hv ⊢
        obtain ⟨xa, xc, rfl⟩ := hv.slice
        unfold Lr.val
        simp only
        obtain ⟨Y92, hY⟩ : ∃ Y, Y = W92.alloc (.cells #[.string l.p, .string l.n, (.slice xa l.rs.length xc)] 33) := ⟨_, rfl⟩
        obtain ⟨bb, hbb⟩ : ∃ bb, bb = W92.heap.size := ⟨_, rfl⟩
        have YA : Hid (Below W92.heap.size W92 Y92 ∧ Y92.heap[bb]? = some (.cells #[.string l.p, .string l.n, (.slice xa l.rs.length xc)] 33 (0, 0))) := Lib.hid (by rw [hY, hbb]; exact ⟨(Below.refl _ _).alloc (Nat.le_refl _) _, by rw [heap_alloc_new]⟩)
        have V := Lib.hid ((hv.row okRl).below YA.out.1)
        clear hv
        have YB := Lib.hid YA.out.2
        have K2 := Lib.hid ((K.out.below hb).below YA.out.1)
        clear K hb YA
        have K := K2
        clear K2
        have hY2 := hY.symm
        have hbb2 := hbb.symm
        clear hY hbb
        have rc9 : ∀ j y, (#[.string l.p, .string l.n, (.slice xa l.rs.length xc)] : Array Value)[j]? = some y → Y92.cell? ⟨bb, j, none⟩ = some y := fun j y hy => by rw [cell_of_row Y92 bb j _ _ _ YB.out]; exact hy
        have r0 := rc9 0 _ rfl
        have r1 := rc9 1 _ rfl
        have r2 := rc9 2 _ rfl
        clear rc9
        have pc : ∀ j y, (#[.string l.p, .string l.n, (.slice ra l.rs.length rc)] : Array Value)[j]? = some y → Y92.cell? ⟨b2, j, none⟩ = some y := fun j y hy => by rw [cell_of_row Y92 b2 j _ _ _ K.out.l]; exact hy
        have p0 := pc 0 _ rfl
        have p1 := pc 1 _ rfl
        have p2 := pc 2 _ rfl
        clear pc
        have SA := Lib.hid (sameLimit_yes l _ _ Y92 V.out (H_L.out.1.below K.out.be))
        unfold Lr.val at SA
        go_wp2_with fail
        clear hY2
        refine SA.out.mono ?_
        rintro e W879 ⟨rfl, hb⟩
        have K2 := Lib.hid (K.out.below hb)
        clear K hb SA YB V DD LT S8 SZ p0 p1 p2 r0 r1 r2
        have K := K2
        clear K2
        obtain ⟨t94, n94, hR⟩ : ∃ (t1 : ByteArray) (n1 : Nat), bdR b = (t1, n1) := ⟨_, _, rfl⟩
        have pc : ∀ j y, (#[.string b.p, .string b.n, .string b.s, .int .i64 b.v] : Array Value)[j]? = some y → W879.cell? ⟨b3, j, none⟩ = some y := fun j y hy => by rw [cell_of_row W879 b3 j _ _ _ K.out.b]; exact hy
        have p0 := pc 0 _ rfl
        have p1 := pc 1 _ rfl
        have p2 := pc 2 _ rfl
        have p3 := pc 3 _ rfl
        clear pc
        have EN := Lib.hid (encodeB_any b W879 (HM.out.below K.out.be) H_B.out)
        rw [hR] at EN
        unfold Bd.val at EN
        simp only at EN
        go_wp2_with fail
        refine EN.out.mono ?_
        rintro e W95 ⟨rfl, hb⟩
        have K2 := Lib.hid (K.out.below hb)
        clear K hb EN p0 p1 p2 p3
        have K := K2
        clear K2
        have pc : ∀ j y, (#[.string b.p, .string b.n, .string b.s, .int .i64 b.v] : Array Value)[j]? = some y → W95.cell? ⟨b3, j, none⟩ = some y := fun j y hy => by rw [cell_of_row W95 b3 j _ _ _ K.out.b]; exact hy
        have p0 := pc 0 _ rfl
        have p1 := pc 1 _ rfl
        have p2 := pc 2 _ rfl
        have p3 := pc 3 _ rfl
        clear pc
        have EN := Lib.hid (validB_any b W95 (HM.out.below K.out.be) H_B.out)
        rw [hR] at EN
        unfold Bd.val at EN
        simp only at EN
        go_wp2_with fail
        refine EN.out.mono ?_
        rintro e W96 ⟨rfl, hb⟩
        have K2 := Lib.hid (K.out.below hb)
        clear K hb EN p0 p1 p2 p3
        have K := K2
        clear K2
        by_cases hz : n94 = 0
        · subst hz
          have DD := Lib.hid (dec_encB hR)
          have LT := Lib.hid (bdR_letter hR)
          have S8 := Lib.hid (bdR_size hR)
          have SZ : Hid (t94.size ≤ 140737488355328) := Lib.hid (by have := S8.out; omega)
          clear hR
          go_wp2_with fail
          refine (decodeB_any t94 W96 (HM.out.below K.out.be) SZ.out).mono ?_
          rintro e W97 ⟨rfl, hb⟩
          rw [DD.out]
          unfold Bd.val
          simp only
          obtain ⟨Y97, hY⟩ : ∃ Y, Y = W97.alloc (.cells #[.string b.p, .string b.n, .string b.s, .int .i64 b.v] 35) := ⟨_, rfl⟩
          obtain ⟨bb, hbb⟩ : ∃ bb, bb = W97.heap.size := ⟨_, rfl⟩
          have YA : Hid (Below W97.heap.size W97 Y97 ∧ Y97.heap[bb]? = some (.cells #[.string b.p, .string b.n, .string b.s, .int .i64 b.v] 35 (0, 0))) := Lib.hid (by rw [hY, hbb]; exact ⟨(Below.refl _ _).alloc (Nat.le_refl _) _, by rw [heap_alloc_new]⟩)
          have YB := Lib.hid YA.out.2
          have K2 := Lib.hid ((K.out.below hb).below YA.out.1)
          clear K hb YA
          have K := K2
          clear K2
          have hY2 := hY.symm
          have hbb2 := hbb.symm
          clear hY hbb
          have rc9 : ∀ j y, (#[.string b.p, .string b.n, .string b.s, .int .i64 b.v] : Array Value)[j]? = some y → Y97.cell? ⟨bb, j, none⟩ = some y := fun j y hy => by rw [cell_of_row Y97 bb j _ _ _ YB.out]; exact hy
          have r0 := rc9 0 _ rfl
          have r1 := rc9 1 _ rfl
          have r2 := rc9 2 _ rfl
          have r3 := rc9 3 _ rfl
          clear rc9
          have pc : ∀ j y, (#[.string b.p, .string b.n, .string b.s, .int .i64 b.v] : Array Value)[j]? = some y → Y97.cell? ⟨b3, j, none⟩ = some y := fun j y hy => by rw [cell_of_row Y97 b3 j _ _ _ K.out.b]; exact hy
          have p0 := pc 0 _ rfl
          have p1 := pc 1 _ rfl
          have p2 := pc 2 _ rfl
          have p3 := pc 3 _ rfl
          clear pc
          clear DD LT S8 SZ
          have AG := Lib.hid (again_any t Y97 (HM.out.below K.out.be) HT.out)
          go_wp2_with fail
          clear hY2
          refine AG.out.mono ?_
          rintro e W99 ⟨rfl, hb⟩
          have K2 := Lib.hid (K.out.below hb)
          clear K hb AG
          go_wp2_with fail
          go_ret
          exact ⟨rfl, K2.out.be⟩
        · have e0 := bdR_err hR hz
          subst e0
          clear hR
          have SZ : Hid ((⟨#[]⟩ : ByteArray).size ≤ 140737488355328) := Lib.hid (by decide)
          have z1 : ¬ ((n94 : Int) = 0) := by omega
          have z2 : ((n94 : Int) == 0) = false := by simpa using z1
          go_wp2_with fail
          refine (decodeB_any ⟨#[]⟩ W96 (HM.out.below K.out.be) SZ.out).mono ?_
          rintro e W99 ⟨rfl, hb⟩
          rw [decB_not (by decide)]
          unfold Bd.val Bd.z
          have AB : Below W96.heap.size W96 (W99.alloc (.cells #[.string ⟨#[]⟩, .string ⟨#[]⟩, .string ⟨#[]⟩, .int .i64 0] 35)) := hb.alloc hb.size _
          have K2 := Lib.hid (K.out.below AB)
          clear K hb AB
          have K := K2
          clear K2
          clear SZ
          have AG := Lib.hid (again_any t (W99.alloc (.cells #[.string ⟨#[]⟩, .string ⟨#[]⟩, .string ⟨#[]⟩, .int .i64 0] 35)) (HM.out.below K.out.be) HT.out)
          go_wp2_with fail
          refine AG.out.mono ?_
          rintro e W99 ⟨rfl, hb⟩
          have K2 := Lib.hid (K.out.below hb)
          clear K hb AG
          go_wp2_with fail
          go_ret
          exact ⟨rfl, K2.out.be⟩
      · have e0 := lrR_err hR hz
        subst e0
        clear hR
        have SZ : Hid ((⟨#[]⟩ : ByteArray).size ≤ 140737488355328) := Lib.hid (by decide)
        have z1 : ¬ ((n87 : Int) = 0) := by omega
        have z2 : ((n87 : Int) == 0) = false := by simpa using z1
        go_wp2_with fail
        refine (decodeL_any ⟨#[]⟩ W91 (HM.out.below K.out.be) SZ.out).mono ?_
        rintro e W100 ⟨vl, rfl, hv, hb⟩
        obtain ⟨za, zc, rfl⟩ := hv.slice
        clear hv
        rw [decL_not (by decide)]
        unfold Lr.val Lr.z
        simp only [List.length_nil]
        obtain ⟨Y100, hY⟩ : ∃ Y, Y = W100.alloc (.cells #[.string ⟨#[]⟩, .string ⟨#[]⟩, .slice za 0 zc] 33) := ⟨_, rfl⟩
        have AB : Below W91.heap.size W91 Y100 := by rw [hY]; exact hb.alloc hb.size _
        have K2 := Lib.hid (K.out.below AB)
        clear K hb AB
        have K := K2
        clear K2
        have hY2 := hY.symm
        clear hY
        clear SZ
        obtain ⟨t101, n101, hR⟩ : ∃ (t1 : ByteArray) (n1 : Nat), bdR b = (t1, n1) := ⟨_, _, rfl⟩
        have pc : ∀ j y, (#[.string b.p, .string b.n, .string b.s, .int .i64 b.v] : Array Value)[j]? = some y → Y100.cell? ⟨b3, j, none⟩ = some y := fun j y hy => by rw [cell_of_row Y100 b3 j _ _ _ K.out.b]; exact hy
        have p0 := pc 0 _ rfl
        have p1 := pc 1 _ rfl
        have p2 := pc 2 _ rfl
        have p3 := pc 3 _ rfl
        clear pc
        have EN := Lib.hid (encodeB_any b Y100 (HM.out.below K.out.be) H_B.out)
        rw [hR] at EN
        unfold Bd.val at EN
        simp only at EN
        go_wp2_with fail
        clear hY2
        refine EN.out.mono ?_
        rintro e W102 ⟨rfl, hb⟩
        have K2 := Lib.hid (K.out.below hb)
        clear K hb EN p0 p1 p2 p3
        have K := K2
        clear K2
        have pc : ∀ j y, (#[.string b.p, .string b.n, .string b.s, .int .i64 b.v] : Array Value)[j]? = some y → W102.cell? ⟨b3, j, none⟩ = some y := fun j y hy => by rw [cell_of_row W102 b3 j _ _ _ K.out.b]; exact hy
        have p0 := pc 0 _ rfl
        have p1 := pc 1 _ rfl
        have p2 := pc 2 _ rfl
        have p3 := pc 3 _ rfl
        clear pc
        have EN := Lib.hid (validB_any b W102 (HM.out.below K.out.be) H_B.out)
        rw [hR] at EN
        unfold Bd.val at EN
        simp only at EN
        go_wp2_with fail
        refine EN.out.mono ?_
        rintro e W103 ⟨rfl, hb⟩
        have K2 := Lib.hid (K.out.below hb)
        clear K hb EN p0 p1 p2 p3
        have K := K2
        clear K2
        by_cases hz : n101 = 0
        · subst hz
          have DD := Lib.hid (dec_encB hR)
          have LT := Lib.hid (bdR_letter hR)
          have S8 := Lib.hid (bdR_size hR)
          have SZ : Hid (t101.size ≤ 140737488355328) := Lib.hid (by have := S8.out; omega)
          clear hR
          go_wp2_with fail
          refine (decodeB_any t101 W103 (HM.out.below K.out.be) SZ.out).mono ?_
          rintro e W104 ⟨rfl, hb⟩
          rw [DD.out]
          unfold Bd.val
          simp only
          obtain ⟨Y104, hY⟩ : ∃ Y, Y = W104.alloc (.cells #[.string b.p, .string b.n, .string b.s, .int .i64 b.v] 35) := ⟨_, rfl⟩
          obtain ⟨bb, hbb⟩ : ∃ bb, bb = W104.heap.size := ⟨_, rfl⟩
          have YA : Hid (Below W104.heap.size W104 Y104 ∧ Y104.heap[bb]? = some (.cells #[.string b.p, .string b.n, .string b.s, .int .i64 b.v] 35 (0, 0))) := Lib.hid (by rw [hY, hbb]; exact ⟨(Below.refl _ _).alloc (Nat.le_refl _) _, by rw [heap_alloc_new]⟩)
          have YB := Lib.hid YA.out.2
          have K2 := Lib.hid ((K.out.below hb).below YA.out.1)
          clear K hb YA
          have K := K2
          clear K2
          have hY2 := hY.symm
          have hbb2 := hbb.symm
          clear hY hbb
          have rc9 : ∀ j y, (#[.string b.p, .string b.n, .string b.s, .int .i64 b.v] : Array Value)[j]? = some y → Y104.cell? ⟨bb, j, none⟩ = some y := fun j y hy => by rw [cell_of_row Y104 bb j _ _ _ YB.out]; exact hy
          have r0 := rc9 0 _ rfl
          have r1 := rc9 1 _ rfl
          have r2 := rc9 2 _ rfl
          have r3 := rc9 3 _ rfl
          clear rc9
          have pc : ∀ j y, (#[.string b.p, .string b.n, .string b.s, .int .i64 b.v] : Array Value)[j]? = some y → Y104.cell? ⟨b3, j, none⟩ = some y := fun j y hy => by rw [cell_of_row Y104 b3 j _ _ _ K.out.b]; exact hy
          have p0 := pc 0 _ rfl
          have p1 := pc 1 _ rfl
          have p2 := pc 2 _ rfl
          have p3 := pc 3 _ rfl
          clear pc
          clear DD LT S8 SZ
          have AG := Lib.hid (again_any t Y104 (HM.out.below K.out.be) HT.out)
          go_wp2_with fail
          clear hY2
          refine AG.out.mono ?_
          rintro e W99 ⟨rfl, hb⟩
          have K2 := Lib.hid (K.out.below hb)
          clear K hb AG
          go_wp2_with fail
          go_ret
          exact ⟨rfl, K2.out.be⟩
        · have e0 := bdR_err hR hz
          subst e0
          clear hR
          have SZ : Hid ((⟨#[]⟩ : ByteArray).size ≤ 140737488355328) := Lib.hid (by decide)
          have z1 : ¬ ((n101 : Int) = 0) := by omega
          have z2 : ((n101 : Int) == 0) = false := by simpa using z1
          go_wp2_with fail
          refine (decodeB_any ⟨#[]⟩ W103 (HM.out.below K.out.be) SZ.out).mono ?_
          rintro e W106 ⟨rfl, hb⟩
          rw [decB_not (by decide)]
          unfold Bd.val Bd.z
          have AB : Below W103.heap.size W103 (W106.alloc (.cells #[.string ⟨#[]⟩, .string ⟨#[]⟩, .string ⟨#[]⟩, .int .i64 0] 35)) := hb.alloc hb.size _
          have K2 := Lib.hid (K.out.below AB)
          clear K hb AB
          have K := K2
          clear K2
          clear SZ
          have AG := Lib.hid (again_any t (W106.alloc (.cells #[.string ⟨#[]⟩, .string ⟨#[]⟩, .string ⟨#[]⟩, .int .i64 0] 35)) (HM.out.below K.out.be) HT.out)
          go_wp2_with fail
          refine AG.out.mono ?_
          rintro e W99 ⟨rfl, hb⟩
          have K2 := Lib.hid (K.out.below hb)
          clear K hb AG
          go_wp2_with fail
          go_ret
          exact ⟨rfl, K2.out.be⟩
end Go.Proofs.YthomdgnmoapbkaaGreatDoor
end S0
