/-
  LawObRef, joined.
-/
import Derived.Test.YthomdgnmoapbkaaDoorM0
import Derived.Test.YthomdgnmoapbkaaDoorObFx
import Derived.Test.YthomdgnmoapbkaaDoorObHb
import Derived.Laws.Bits64b
section S0
namespace Go.Proofs.YthomdgnmoapbkaaDoor
open Go.RowKit
theorem and_15 (n : Int) : bits .and .i64 n 15 = (((n % 16).toNat : Nat) : Int) := by
  have h1 : (BitVec.ofInt 64 n).toNat = (n % 18446744073709551616).toNat := by rw [BitVec.toNat_ofInt]; rfl
  have h2 : (BitVec.ofInt 64 (15 : Int)).toNat = 2 ^ 4 - 1 := by decide
  show IntKind.i64.wrap ((BitVec.ofInt 64 n &&& BitVec.ofInt 64 (15 : Int)).toNat : Int) = _
  rw [BitVec.toNat_and, h1, h2, Nat.and_two_pow_sub_one_eq_mod, IntKind.wrap_i64]
  omega
theorem obS_few {o : Ob} (h : obS o = true) : o.ps.length ≤ 8 := by
  unfold obS ptsB at h
  simp only [Bool.and_eq_true, decide_eq_true_eq] at h
  omega
theorem obS_lbls {o : Ob} (h : obS o = true) : o.ls.length ≤ 16 := by
  unfold obS L.validE at h
  simp only [Bool.and_eq_true, decide_eq_true_eq] at h
  have q : L.lblsB o.ls = true := by
    rcases Bool.eq_false_or_eq_true (L.lblsB o.ls) with e | e
    · exact e
    · have := h.2.1; rw [e] at this; simp at this
  unfold L.lblsB at q
  simp only [Bool.and_eq_true, decide_eq_true_eq] at q
  exact q.1
theorem obS_psize {o : Ob} (h : obS o = true) : o.p.size ≤ 64 := by
  have hs : L.splitE o.p = 0 := by
    unfold obS namedB at h
    simp only [Bool.and_eq_true, decide_eq_true_eq] at h
    exact h.1.1
  have hsome : (L.splitO o.p).isSome = true := by
    rcases Bool.eq_false_or_eq_true (L.splitO o.p).isSome with e | e
    · exact e
    · unfold L.splitE at hs; rw [e] at hs; simp at hs
  by_cases q : o.p.data.toList = [47]
  · have := congrArg List.length q
    rw [str_size] at this
    rw [this]; decide
  · unfold L.splitO at hsome
    rw [if_neg q] at hsome
    split at hsome
    · rename_i y; exact y.2.1
    · simp at hsome
set_option maxHeartbeats 64000000 in
set_option maxRecDepth 100000 in
theorem objectRefuses_walk (x : Int) (o : Ob) (ov op : Value) (w : World) (hm : L.HasM w) (_hx : -9223372036854775808 ≤ x ∧ x < 9223372036854775808)
    (ho : ObV w ov op o ∧ o.Fit ∧ o.ls.length * 32 ≤ 140737488355328 ∧ o.ps.length * 64 ≤ 140737488355328 ∧ ∀ y ∈ o.ps, y.r.length * 24 ≤ 140737488355328 ∧ y.l.length * 24 ≤ 140737488355328) :
    Calls Tryd.prog 3 #[.int .i64 x, o.val ov op] w fun e w' => e = .returned (.bool true) ∧ Below w.heap.size w w' := by
  obtain ⟨la, lc, rfl, _, _⟩ := ho.1.l.len
  obtain ⟨pa, pc, rfl, _, _⟩ := ho.1.p.len
  have HM := Lib.hid hm
  have H_O := Lib.hid ho
  obtain ⟨k, hk⟩ : ∃ k : Int, k = bits .and .i64 x 15 := ⟨_, rfl⟩
  have HK : Hid (0 ≤ k ∧ k ≤ 15) := Lib.hid (by rw [hk, and_15]; omega)
  have hk2 := hk.symm
  clear hm ho hk
  unfold Ob.val
  obtain ⟨X1, hX1⟩ : ∃ X, X = w.alloc (.cells #[.string o.p, .string o.n, .slice la o.ls.length lc, .int .i64 o.pr, .int .i64 o.dl, .slice pa o.ps.length pc, .int .i64 o.ver] 25) := ⟨_, rfl⟩
  have K : Hid (RK w #[.string o.p, .string o.n, .slice la o.ls.length lc, .int .i64 o.pr, .int .i64 o.dl, .slice pa o.ps.length pc, .int .i64 o.ver] X1) := Lib.hid ⟨by rw [hX1, heap_alloc_new], by rw [hX1]; exact (Below.refl _ _).alloc (Nat.le_refl _) _⟩
  have h1 := hX1.symm
  clear hX1
  go_enter Tryd.func3, Tryd.ntmps3
  go_wp2_with fail
  clear h1
  refine (fixed_any sameObject_yes X1 (HM.out.below K.out.be)).mono ?_
  rintro e W1 ⟨rfl, hb⟩
  have K2 := Lib.hid (K.out.below hb)
  clear K
  have K := K2
  clear K2
  clear hb
  have WG := Lib.hid (wrong_any k HK.out.1 HK.out.2 W1)
  go_wp2_with fail
  refine WG.out.mono ?_
  rintro e W2 ⟨xx, vl, vp, rfl, hv, hf, hs, hb⟩
  clear WG HK hk2
  obtain ⟨xa, xc, rfl, _, _⟩ := hv.l.len
  obtain ⟨ya, yc, rfl, _, _⟩ := hv.p.len
  have K2 := Lib.hid (K.out.below hb)
  clear K
  have K := K2
  clear K2
  clear hb
  unfold Ob.val
  obtain ⟨X2, hX2⟩ : ∃ X, X = W2.alloc (.cells #[.string xx.p, .string xx.n, .slice xa xx.ls.length xc, .int .i64 xx.pr, .int .i64 xx.dl, .slice ya xx.ps.length yc, .int .i64 xx.ver] 25) := ⟨_, rfl⟩
  obtain ⟨b2, hb2⟩ : ∃ b, b = W2.heap.size := ⟨_, rfl⟩
  have A2 : Below W2.heap.size W2 X2 := by rw [hX2]; exact (Below.refl _ _).alloc (Nat.le_refl _) _
  have YB : Hid (X2.heap[b2]? = some (.cells #[.string xx.p, .string xx.n, .slice xa xx.ls.length xc, .int .i64 xx.pr, .int .i64 xx.dl, .slice ya xx.ps.length yc, .int .i64 xx.ver] 25 (0, 0))) := Lib.hid (by rw [hX2, hb2, heap_alloc_new])
  have V := Lib.hid (hv.below A2)
  have HX := Lib.hid (And.intro (obR_no hs) hf)
  have K2 := Lib.hid (K.out.below A2)
  clear K
  have K := K2
  clear K2
  have hX3 := hX2.symm
  have hb3 := hb2.symm
  clear hX2 hb2 A2 hv hf hs
  have rc : ∀ j y, (#[.string xx.p, .string xx.n, .slice xa xx.ls.length xc, .int .i64 xx.pr, .int .i64 xx.dl, .slice ya xx.ps.length yc, .int .i64 xx.ver] : Array Value)[j]? = some y → X2.cell? ⟨b2, j, none⟩ = some y := fun j y hy => by rw [cell_of_row X2 b2 j _ _ _ YB.out]; exact hy
  have r0 := rc 0 _ rfl
  have r1 := rc 1 _ rfl
  have r2 := rc 2 _ rfl
  have r3 := rc 3 _ rfl
  have r4 := rc 4 _ rfl
  have r5 := rc 5 _ rfl
  have r6 := rc 6 _ rfl
  clear rc
  have VA := Lib.hid (valido_any xx _ _ X2 (HM.out.below K.out.be) V.out HX.out.2)
  rw [HX.out.1] at VA
  unfold Ob.val at VA
  simp only at VA
  go_wp2_with fail
  clear hX3 hb3
  refine VA.out.mono ?_
  rintro e W3 ⟨rfl, hb⟩
  have YB2 := Lib.hid ((hb.block _ (lt_of_some YB.out)).trans YB.out)
  have V2 := Lib.hid (V.out.below hb)
  clear YB V VA r0 r1 r2 r3 r4 r5 r6
  have K2 := Lib.hid (K.out.below hb)
  clear K
  have K := K2
  clear K2
  clear hb
  have rc : ∀ j y, (#[.string xx.p, .string xx.n, .slice xa xx.ls.length xc, .int .i64 xx.pr, .int .i64 xx.dl, .slice ya xx.ps.length yc, .int .i64 xx.ver] : Array Value)[j]? = some y → W3.cell? ⟨b2, j, none⟩ = some y := fun j y hy => by rw [cell_of_row W3 b2 j _ _ _ YB2.out]; exact hy
  have r0 := rc 0 _ rfl
  have r1 := rc 1 _ rfl
  have r2 := rc 2 _ rfl
  have r3 := rc 3 _ rfl
  have r4 := rc 4 _ rfl
  have r5 := rc 5 _ rfl
  have r6 := rc 6 _ rfl
  clear rc
  have EN := Lib.hid (encode_any xx _ _ W3 (HM.out.below K.out.be) V2.out HX.out.2)
  rw [HX.out.1] at EN
  unfold Ob.val at EN
  simp only at EN
  go_wp2_with fail
  refine EN.out.mono ?_
  rintro e W4 ⟨rfl, hb⟩
  clear YB2 V2 EN HX r0 r1 r2 r3 r4 r5 r6
  have K2 := Lib.hid (K.out.below hb)
  clear K
  have K := K2
  clear K2
  clear hb
  obtain ⟨t1, n1, hR⟩ : ∃ (t1 : ByteArray) (n1 : Nat), obR o = (t1, n1) := ⟨_, _, rfl⟩
  have pc : ∀ j y, (#[.string o.p, .string o.n, .slice la o.ls.length lc, .int .i64 o.pr, .int .i64 o.dl, .slice pa o.ps.length pc, .int .i64 o.ver] : Array Value)[j]? = some y → W4.cell? ⟨w.heap.size, j, none⟩ = some y := fun j y hy => by rw [cell_of_row W4 w.heap.size j _ _ _ K.out.o]; exact hy
  have p0 := pc 0 _ rfl
  have p1 := pc 1 _ rfl
  have p2 := pc 2 _ rfl
  have p3 := pc 3 _ rfl
  have p4 := pc 4 _ rfl
  have p5 := pc 5 _ rfl
  have p6 := pc 6 _ rfl
  clear pc
  have OA := Lib.hid (ownObject_any o _ _ W4 (H_O.out.1.below K.out.be) H_O.out.2.2.1 H_O.out.2.2.2.1 H_O.out.2.2.2.2)
  unfold Ob.val at OA
  go_wp2_with fail
  refine OA.out.mono ?_
  rintro e W5 ⟨vl, vp, rfl, hv, hb⟩
  clear OA p0 p1 p2 p3 p4 p5 p6
  have K2 := Lib.hid (K.out.below hb)
  clear K
  have K := K2
  clear K2
  clear hb
  have VA := Lib.hid (valido_any o vl vp W5 (HM.out.below K.out.be) hv.obv H_O.out.2.1)
  rw [hR] at VA
  unfold Ob.val at VA
  simp only at VA
  clear hv
  go_wp2_with fail
  refine VA.out.mono ?_
  rintro e W6 ⟨rfl, hb⟩
  clear VA
  have K2 := Lib.hid (K.out.below hb)
  clear K
  have K := K2
  clear K2
  clear hb
  by_cases hz : n1 = 0
  case neg =>
    have z1 : ¬ ((n1 : Int) = 0) := by omega
    have z2 : ((n1 : Int) == 0) = false := by simpa using z1
    go_wp2_with fail
    go_ret
    exact ⟨rfl, K.out.be⟩
  subst hz
  have HS := Lib.hid (obR_zero hR)
  clear hR
  obtain ⟨m, hm⟩ : ∃ m, o.ps.length = m + 1 := by
    cases hp : o.ps with
    | nil => exact absurd hp (obS_some HS.out)
    | cons y r => exact ⟨r.length, by simp⟩
  have MM := Lib.hid hm
  clear hm
  have pc : ∀ j y, (#[.string o.p, .string o.n, .slice la o.ls.length lc, .int .i64 o.pr, .int .i64 o.dl, .slice pa o.ps.length pc, .int .i64 o.ver] : Array Value)[j]? = some y → W6.cell? ⟨w.heap.size, j, none⟩ = some y := fun j y hy => by rw [cell_of_row W6 w.heap.size j _ _ _ K.out.o]; exact hy
  have p0 := pc 0 _ rfl
  have p1 := pc 1 _ rfl
  have p2 := pc 2 _ rfl
  have p3 := pc 3 _ rfl
  have p4 := pc 4 _ rfl
  have p5 := pc 5 _ rfl
  have p6 := pc 6 _ rfl
  clear pc
  have OA := Lib.hid (ownObject_any o _ _ W6 (H_O.out.1.below K.out.be) H_O.out.2.2.1 H_O.out.2.2.2.1 H_O.out.2.2.2.2)
  unfold Ob.val at OA
  go_wp2_with fail
  refine OA.out.mono ?_
  rintro e W7 ⟨vl, vp, rfl, hv, hb⟩
  clear OA p0 p1 p2 p3 p4 p5 p6
  obtain ⟨xa, xc, rfl, _, _⟩ := hv.obv.l.len
  obtain ⟨ya, yc, hy9, _, hy8⟩ := hv.obv.p.len
  rw [MM.out] at hy9
  subst hy9
  obtain ⟨g, hg⟩ : ∃ g, ya = some ⟨g, 0, none⟩ := by
    obtain ⟨rs, _, h2, h3⟩ := hv
    obtain ⟨_, ⟨hv, _⟩ | ⟨g, cap, cur, hv, _⟩⟩ := h2
    · simp at hv
    · simp only [Value.slice.injEq] at hv; exact ⟨g, hv.1⟩
  subst hg
  obtain ⟨X7, hX7⟩ : ∃ X, X = W7.alloc (.cells #[.string o.p, .string o.n, .slice xa o.ls.length xc, .int .i64 o.pr, .int .i64 o.dl, .slice (some ⟨g, 0, none⟩) (m + 1) yc, .int .i64 o.ver] 25) := ⟨_, rfl⟩
  obtain ⟨bn, hbn⟩ : ∃ b, b = W7.heap.size := ⟨_, rfl⟩
  obtain ⟨rs, BN0⟩ := BO.start hv hb.size hX7 hbn
  have A7 : Below W7.heap.size W7 X7 := by rw [hX7]; exact (Below.refl _ _).alloc (Nat.le_refl _) _
  have KW := Lib.hid K.out
  have BW : Hid (Below W6.heap.size W6 X7) := Lib.hid (hb.trans (A7.mono hb.size))
  have BN := Lib.hid (BN0.below (⟨rfl, rfl, rfl, Nat.le_refl _, fun _ _ => rfl⟩ : Below X7.heap.size X7 X7.drew))
  have rl : rs.length = m + 1 := BN0.q.1.trans MM.out
  have NQ := Lib.hid (BN0.q.2 m (by rw [MM.out]; omega))
  obtain ⟨b9, off9, ea, hc9⟩ := (BN0.p.row okPt).at m (by omega)
  simp only [Option.some.injEq, Addr.mk.injEq, and_true] at ea
  obtain ⟨rfl, rfl⟩ := ea
  obtain ⟨r, hr⟩ : ∃ r, r = rs.getD m kPt.z := ⟨_, rfl⟩
  rw [← hr] at hc9
  have NR : Hid (r.n = (o.ps.getD m ⟨⟨#[]⟩, [], []⟩).n ∧ OwnR kAm W6.heap.size X7 r.r.v (o.ps.getD m ⟨⟨#[]⟩, [], []⟩).r ∧ OwnR kAm W6.heap.size X7 r.l.v (o.ps.getD m ⟨⟨#[]⟩, [], []⟩).l) := Lib.hid (by rw [hr]; exact NQ.out)
  clear hr NQ
  obtain ⟨rn, ⟨ra1, ra2, ra3⟩, ⟨rb1, rb2, rb3⟩⟩ := r
  have c5 : X7.cell? ⟨bn, 5, none⟩ = some (.slice (some ⟨g, 0, none⟩) (m + 1) yc) := by rw [cell_of_row X7 bn 5 _ _ _ BN0.o]; rfl
  have k0 : X7.cell? ⟨g, m * 3, none⟩ = some (.string rn) := by have := hc9 0 _ rfl; rw [Nat.zero_add] at this; exact this
  have k1 : X7.cell? ⟨g, m * 3 + 1, none⟩ = some (.slice ra1 ra2 ra3) := by have := hc9 1 _ rfl; rw [Nat.zero_add] at this; exact this
  have k2 : X7.cell? ⟨g, m * 3 + 2, none⟩ = some (.slice rb1 rb2 rb3) := by have := hc9 2 _ rfl; rw [Nat.zero_add] at this; exact this
  have d5 : X7.drew.cell? ⟨bn, 5, none⟩ = some (.slice (some ⟨g, 0, none⟩) (m + 1) yc) := c5
  have e0 : X7.drew.cell? ⟨g, m * 3, none⟩ = some (.string rn) := k0
  have e1 : X7.drew.cell? ⟨g, m * 3 + 1, none⟩ = some (.slice ra1 ra2 ra3) := k1
  have e2 : X7.drew.cell? ⟨g, m * 3 + 2, none⟩ = some (.slice rb1 rb2 rb3) := k2
  have MX : Hid ((m + 1 + 1) * kPt.b ≤ 140737488355328) := Lib.hid (by have := obS_few HS.out; have := MM.out; show (m + 1 + 1) * 64 ≤ 140737488355328; omega)
  have LN : Hid ((rs.length + 1) * kPt.b ≤ 140737488355328) := Lib.hid (by rw [rl]; exact MX.out)
  have LB : Hid (W6.heap.size ≤ X7.drew.heap.size) := Lib.hid BW.out.size
  have i1 : (0 : Int) ≤ (m : Int) := by omega
  have i2 : (m : Int) < (m : Int) + 1 := by omega
  have i3 : IntKind.i64.wrap (m : Int) = (m : Int) := by have := obS_few HS.out; have := MM.out; rw [IntKind.wrap_i64]; omega
  have hX8 := hX7.symm
  have hbn2 := hbn.symm
  clear hX7 hbn A7 hv hb hc9 rl hy8 BN0
  rw [MM.out]
  go_wp2_with fail
  refine wp_region_noPanic ?_
  refine region_two (fun _ => True) (fun W' => W'.cell? ⟨bn, 5, none⟩ = some (.slice (some ⟨g, 0, none⟩) (m + 1) yc) ∧ W'.cell? ⟨g, m * 3, none⟩ = some (.string rn) ∧ W'.cell? ⟨g, m * 3 + 1, none⟩ = some (.slice ra1 ra2 ra3) ∧ W'.cell? ⟨g, m * 3 + 2, none⟩ = some (.slice rb1 rb2 rb3)) 11 (by kernel_rfl) ?_
  refine two_take0 (i := 0) (oi := { dst := some 43, op := Op.fieldAddr 25 (Operand.tmp 10) 5, type := 0, pos := "outright.go:221", after := #[], guard := none }) (v := ?v0) rfl (by kernel_rfl) (by kernel_rfl) (by kernel_rfl) rfl (fun _ _ _ h => h) (Or.inl ⟨by rfl, ?y0⟩) ⟨trivial, fun _ => ⟨d5, e0, e1, e2⟩⟩ ?r0
  case y0 => (intro wS hS; go_simp; (try with_reducible rfl))
  try simp only [Act.put, List.setIfInBounds_toArray, List.set_cons_zero, List.set_cons_succ]
  refine two_takeC (i := 1) (oi := { dst := some 44, op := Op.load 23 (Operand.tmp 43), type := 23, pos := "outright.go:221", after := #[{ on := 0, ground := Ground.data }], guard := none }) (v := ?v1) [11] rfl (by kernel_rfl) (by kernel_rfl) (by kernel_rfl) rfl rfl (by kernel_rfl) (by kernel_rfl) (fun _ _ _ h => h) (Or.inl ⟨by rfl, ?y1⟩) ⟨trivial, fun _ => ⟨d5, e0, e1, e2⟩⟩ ?r1
  case y1 => (intro wS hS; obtain ⟨j0, j1, j2, j3⟩ := hS; go_simp; (try with_reducible rfl))
  try simp only [Act.put, List.setIfInBounds_toArray, List.set_cons_zero, List.set_cons_succ]
  refine two_take0 (i := 2) (oi := { dst := some 45, op := Op.fieldAddr 25 (Operand.tmp 10) 5, type := 0, pos := "outright.go:221", after := #[], guard := none }) (v := ?v2) rfl (by kernel_rfl) (by kernel_rfl) (by kernel_rfl) rfl (fun _ _ _ h => h) (Or.inl ⟨by rfl, ?y2⟩) ⟨trivial, fun _ => ⟨d5, e0, e1, e2⟩⟩ ?r2
  case y2 => (intro wS hS; go_simp; (try with_reducible rfl))
  try simp only [Act.put, List.setIfInBounds_toArray, List.set_cons_zero, List.set_cons_succ]
  refine two_takeC (i := 3) (oi := { dst := some 46, op := Op.load 23 (Operand.tmp 45), type := 23, pos := "outright.go:221", after := #[{ on := 2, ground := Ground.data }], guard := none }) (v := ?v3) [8, 9, 10, 11] rfl (by kernel_rfl) (by kernel_rfl) (by kernel_rfl) rfl rfl (by kernel_rfl) (by kernel_rfl) (fun _ _ _ h => h) (Or.inl ⟨by rfl, ?y3⟩) ⟨trivial, fun _ => ⟨d5, e0, e1, e2⟩⟩ ?r3
  case y3 => (intro wS hS; obtain ⟨j0, j1, j2, j3⟩ := hS; go_simp; (try with_reducible rfl))
  try simp only [Act.put, List.setIfInBounds_toArray, List.set_cons_zero, List.set_cons_succ]
  refine two_take0 (i := 4) (oi := { dst := some 47, op := Op.fieldAddr 25 (Operand.tmp 10) 5, type := 0, pos := "outright.go:221", after := #[], guard := none }) (v := ?v4) rfl (by kernel_rfl) (by kernel_rfl) (by kernel_rfl) rfl (fun _ _ _ h => h) (Or.inl ⟨by rfl, ?y4⟩) ⟨trivial, fun _ => ⟨d5, e0, e1, e2⟩⟩ ?r4
  case y4 => (intro wS hS; go_simp; (try with_reducible rfl))
  try simp only [Act.put, List.setIfInBounds_toArray, List.set_cons_zero, List.set_cons_succ]
  refine two_takeC (i := 5) (oi := { dst := some 48, op := Op.load 23 (Operand.tmp 47), type := 23, pos := "outright.go:221", after := #[{ on := 4, ground := Ground.data }], guard := none }) (v := ?v5) [6, 7, 8, 9, 10, 11] rfl (by kernel_rfl) (by kernel_rfl) (by kernel_rfl) rfl rfl (by kernel_rfl) (by kernel_rfl) (fun _ _ _ h => h) (Or.inl ⟨by rfl, ?y5⟩) ⟨trivial, fun _ => ⟨d5, e0, e1, e2⟩⟩ ?r5
  case y5 => (intro wS hS; obtain ⟨j0, j1, j2, j3⟩ := hS; go_simp; (try with_reducible rfl))
  try simp only [Act.put, List.setIfInBounds_toArray, List.set_cons_zero, List.set_cons_succ]
  refine two_take0 (i := 6) (oi := { dst := some 49, op := Op.call { callee := Callee.builtin Builtin.len, args := #[Operand.tmp 48], argTypes := #[23] }, type := 3, pos := "outright.go:221", after := #[{ on := 5, ground := Ground.data }], guard := none }) (v := ?v6) rfl (by kernel_rfl) (by kernel_rfl) (by kernel_rfl) rfl (fun _ _ _ h => h) (Or.inl ⟨by rfl, ?y6⟩) ⟨trivial, fun _ => ⟨d5, e0, e1, e2⟩⟩ ?r6
  case y6 => (intro wS hS; go_simp; (try with_reducible rfl))
  try simp only [Act.put, List.setIfInBounds_toArray, List.set_cons_zero, List.set_cons_succ]
  refine two_take0 (i := 7) (oi := { dst := some 50, op := Op.binOp BinOp.sub 3 (Operand.tmp 49) (Operand.const (Value.int IntKind.i64 1)) 3, type := 3, pos := "outright.go:221", after := #[{ on := 6, ground := Ground.data }], guard := none }) (v := ?v7) rfl (by kernel_rfl) (by kernel_rfl) (by kernel_rfl) rfl (fun _ _ _ h => h) (Or.inl ⟨by rfl, ?y7⟩) ⟨trivial, fun _ => ⟨d5, e0, e1, e2⟩⟩ ?r7
  case y7 => (intro wS hS; go_simp; (try with_reducible rfl))
  try simp only [Act.put, List.setIfInBounds_toArray, List.set_cons_zero, List.set_cons_succ]
  refine two_take0 (i := 8) (oi := { dst := some 51, op := Op.indexAddr 23 (Operand.tmp 46) (Operand.tmp 50), type := 0, pos := "outright.go:221", after := #[{ on := 3, ground := Ground.data }, { on := 7, ground := Ground.data }], guard := none }) (v := ?v8) rfl (by kernel_rfl) (by kernel_rfl) (by kernel_rfl) rfl (fun _ _ _ h => h) (Or.inl ⟨by rfl, ?y8⟩) ⟨trivial, fun _ => ⟨d5, e0, e1, e2⟩⟩ ?r8
  case y8 => (intro wS hS; go_simp; (try with_reducible rfl))
  try simp only [Act.put, List.setIfInBounds_toArray, List.set_cons_zero, List.set_cons_succ]
  refine two_takeC (i := 9) (oi := { dst := some 52, op := Op.load 35 (Operand.tmp 51), type := 35, pos := "outright.go:221", after := #[{ on := 8, ground := Ground.data }], guard := none }) (v := ?v9) [10, 11] rfl (by kernel_rfl) (by kernel_rfl) (by kernel_rfl) rfl rfl (by kernel_rfl) (by kernel_rfl) (fun _ _ _ h => h) (Or.inl ⟨by rfl, ?y9⟩) ⟨trivial, fun _ => ⟨d5, e0, e1, e2⟩⟩ ?r9
  case y9 => (intro wS hS; obtain ⟨j0, j1, j2, j3⟩ := hS; go_simp; (try with_reducible rfl))
  try simp only [Act.put, List.setIfInBounds_toArray, List.set_cons_zero, List.set_cons_succ]
  have mA : ∀ ob, (X7.drew.alloc ob).cell? ⟨bn, 5, none⟩ = some (.slice (some ⟨g, 0, none⟩) (m + 1) yc) ∧ (X7.drew.alloc ob).cell? ⟨g, m * 3, none⟩ = some (.string rn) ∧ (X7.drew.alloc ob).cell? ⟨g, m * 3 + 1, none⟩ = some (.slice ra1 ra2 ra3) ∧ (X7.drew.alloc ob).cell? ⟨g, m * 3 + 2, none⟩ = some (.slice rb1 rb2 rb3) := fun ob => by
    have q := (Below.refl X7.drew.heap.size X7.drew).alloc (Nat.le_refl _) ob
    exact ⟨(q.cell (block_lt_of_cell d5)).trans d5, (q.cell (block_lt_of_cell e0)).trans e0, (q.cell (block_lt_of_cell e1)).trans e1, (q.cell (block_lt_of_cell e2)).trans e2⟩
  refine two_one (j := 10) (o := { dst := some 53, op := Op.buildSlice 23 1 #[(0, Operand.tmp 52)], type := 23, pos := "outright.go:221", after := #[{ on := 9, ground := Ground.data }], guard := none }) (by kernel_rfl) rfl (fun K9 hK => ?_)
  go_simp
  refine hK.out _ _ ⟨trivial, fun _ => mA _⟩ ?_
  clear hK K9
  try simp only [Act.put, List.setIfInBounds_toArray, List.set_cons_zero, List.set_cons_succ]
  refine two_one (j := 11) (o := { dst := some 54, op := Op.call { callee := Callee.builtin Builtin.append, args := #[Operand.tmp 44, Operand.tmp 53], argTypes := #[23, 23] }, type := 23, pos := "outright.go:221", after := #[{ on := 1, ground := Ground.data }, { on := 10, ground := Ground.data }], guard := none }) (by kernel_rfl) rfl (fun K9 hK => ?_)
  refine step_rowB okPt rfl (.tmp 44) (.tmp 53) rfl (B := W6.heap.size) (w0 := X7.drew) (v := .slice (some ⟨g, 0, none⟩) (m + 1) yc) (es := rs) rfl BN.out.p LB.out ⟨rn, ⟨ra1, ra2, ra3⟩, ⟨rb1, rb2, rb3⟩⟩ rfl rfl LN.out ?_
  intro a6 n6 c6 w7 H7
  have GN := Lib.hid (BN.out.grownP H7.out.2.1)
  have f2 : w7.frozen? ⟨bn, 5, none⟩ = false := frozen_of_row _ _ _ _ _ GN.out
  have z2 : w7.cell? ⟨bn, 5, none⟩ = some (.slice (some ⟨g, 0, none⟩) (m + 1) yc) := by rw [cell_of_row w7 bn 5 _ _ _ GN.out]; rfl
  refine hK.out _ _ ⟨trivial, fun q => absurd (show (true : Bool) = false from q) (by decide)⟩ ?_
  clear hK K9
  try simp only [Act.put, List.setIfInBounds_toArray, List.set_cons_zero, List.set_cons_succ]
  refine two_take0 (i := 12) (oi := { dst := some 55, op := Op.fieldAddr 25 (Operand.tmp 10) 5, type := 0, pos := "outright.go:221", after := #[{ on := 0, ground := Ground.phase }, { on := 1, ground := Ground.phase }, { on := 2, ground := Ground.phase }, { on := 3, ground := Ground.phase }, { on := 4, ground := Ground.phase }, { on := 5, ground := Ground.phase }, { on := 6, ground := Ground.phase }, { on := 7, ground := Ground.phase }, { on := 8, ground := Ground.phase }, { on := 9, ground := Ground.phase }, { on := 10, ground := Ground.phase }, { on := 11, ground := Ground.phase }], guard := none }) (v := ?v12) rfl (by kernel_rfl) (by kernel_rfl) (by kernel_rfl) rfl (fun _ _ _ h => h) (Or.inl ⟨by rfl, ?y12⟩) ⟨trivial, fun q => absurd (show (true : Bool) = false from q) (by decide)⟩ ?r12
  case y12 => (intro wS hS; go_simp; (try with_reducible rfl))
  try simp only [Act.put, List.setIfInBounds_toArray, List.set_cons_zero, List.set_cons_succ]
  refine two_one (j := 13) (o := { dst := none, op := Op.store 23 (Operand.tmp 55) (Operand.tmp 54), type := 0, pos := "outright.go:221", after := #[{ on := 12, ground := Ground.data }, { on := 11, ground := Ground.data }, { on := 11, ground := Ground.chain }, { on := 0, ground := Ground.phase }, { on := 1, ground := Ground.phase }, { on := 2, ground := Ground.phase }, { on := 3, ground := Ground.phase }, { on := 4, ground := Ground.phase }, { on := 5, ground := Ground.phase }, { on := 6, ground := Ground.phase }, { on := 7, ground := Ground.phase }, { on := 8, ground := Ground.phase }, { on := 9, ground := Ground.phase }, { on := 10, ground := Ground.phase }, { on := 11, ground := Ground.phase }], guard := none }) (by kernel_rfl) rfl (fun K9 hK => ?_)
  go_simp
  refine hK.out _ _ ⟨trivial, fun q => absurd (show (true : Bool) = false from q) (by decide)⟩ ?_
  clear hK K9
  try simp only [Act.put, List.setIfInBounds_toArray, List.set_cons_zero, List.set_cons_succ]
  refine two_done (by kernel_rfl) ?_ _
  refine NoPanic.normal ?_
  obtain ⟨Wn, hWn⟩ : ∃ Wn, w7.setCell ⟨bn, 5, none⟩ (.slice a6 n6 c6) = Wn := ⟨_, rfl⟩
  have NN := BN.out.part (y := o.ps.getD m ⟨⟨#[]⟩, [], []⟩) H7.out.1 H7.out.2.1 NR.out.1 (NR.out.2.1.below (⟨rfl, rfl, rfl, Nat.le_refl _, fun _ _ => rfl⟩ : Below X7.heap.size X7 X7.drew)) (NR.out.2.2.below (⟨rfl, rfl, rfl, Nat.le_refl _, fun _ _ => rfl⟩ : Below X7.heap.size X7 X7.drew))
  rw [hWn] at NN
  rw [hWn]
  have BX : Below W6.heap.size W6 Wn := (BW.out.trans (⟨rfl, rfl, rfl, Nat.le_refl _, fun _ _ => rfl⟩ : Below W6.heap.size X7 X7.drew)).trans NN.2
  have KN := Lib.hid (KW.out.below BX)
  have FN : Hid (obR { o with ps := o.ps ++ [o.ps.getD m ⟨⟨#[]⟩, [], []⟩] } = (⟨#[]⟩, 130) ∧ ({ o with ps := o.ps ++ [o.ps.getD m ⟨⟨#[]⟩, [], []⟩] } : Ob).Fit) := Lib.hid (by
    refine ⟨obR_no ?_, ⟨H_O.out.2.1.s, H_O.out.2.1.l, fun y hy => ?_, H_O.out.2.1.n⟩⟩
    · have := obS_twice (d := ⟨⟨#[]⟩, [], []⟩) (obS_some HS.out)
      rw [show o.ps.length - 1 = m by rw [MM.out]; rfl] at this
      exact this
    · rcases List.mem_append.1 hy with q | q
      · exact H_O.out.2.1.p y q
      · rw [List.mem_singleton.1 q]; exact H_O.out.2.1.p _ (getD_in (by rw [MM.out]; omega)))
  have ND := Lib.hid NN.1
  clear K f2 z2 mA c5 d5 k0 k1 k2 e0 e1 e2 i1 i2 i3 hX8 hbn2 NN BX BN BW KW NR GN H7 LN LB MX hWn
  have K := KN
  clear KN
  have pc : ∀ j y, (#[.string o.p, .string o.n, .slice la o.ls.length lc, .int .i64 o.pr, .int .i64 o.dl, .slice pa o.ps.length pc, .int .i64 o.ver] : Array Value)[j]? = some y → Wn.cell? ⟨w.heap.size, j, none⟩ = some y := fun j y hy => by rw [cell_of_row Wn w.heap.size j _ _ _ K.out.o]; exact hy
  have p0 := pc 0 _ rfl
  have p1 := pc 1 _ rfl
  have p2 := pc 2 _ rfl
  have p3 := pc 3 _ rfl
  have p4 := pc 4 _ rfl
  have p5 := pc 5 _ rfl
  have p6 := pc 6 _ rfl
  clear pc
  have OA := Lib.hid (ownObject_any o _ _ Wn (H_O.out.1.below K.out.be) H_O.out.2.2.1 H_O.out.2.2.2.1 H_O.out.2.2.2.2)
  unfold Ob.val at OA
  go_wp2_with fail
  refine OA.out.mono ?_
  rintro e W8 ⟨vl, vp, rfl, hv, hb⟩
  clear OA p0 p1 p2 p3 p4 p5 p6
  obtain ⟨xb, xd, rfl, _, _⟩ := hv.obv.l.len
  obtain ⟨yb, yd, rfl, _, _⟩ := hv.obv.p.len
  obtain ⟨X8, hX8⟩ : ∃ X, X = W8.alloc (.cells #[.string o.p, .string o.n, .slice xb o.ls.length xd, .int .i64 o.pr, .int .i64 o.dl, .slice yb o.ps.length yd, .int .i64 o.ver] 25) := ⟨_, rfl⟩
  obtain ⟨bm, hbm⟩ : ∃ b, b = W8.heap.size := ⟨_, rfl⟩
  obtain ⟨rsBM, BM0⟩ := BO.start hv hb.size hX8 hbm
  have AX8 : Below W8.heap.size W8 X8 := by rw [hX8]; exact (Below.refl _ _).alloc (Nat.le_refl _) _
  have BX8 := Lib.hid (hb.trans (AX8.mono hb.size))
  have BM := Lib.hid BM0
  have hX82 := hX8.symm
  have hbm2 := hbm.symm
  clear hX8 hbm AX8 hv hb BM0
  have c2 : X8.cell? ⟨bm, 2, none⟩ = some (.slice xb o.ls.length xd) := by rw [cell_of_row X8 bm 2 _ _ _ BM.out.o]; rfl
  have LN : Hid ((o.ls.length + 1) * kLb.b ≤ 140737488355328) := Lib.hid (by have := obS_lbls HS.out; show (o.ls.length + 1) * 32 ≤ 140737488355328; omega)
  have LB : Hid (Wn.heap.size ≤ X8.heap.size) := Lib.hid BX8.out.size
  go_wp2_with (at_builtin; refine app_rowB okLb (gg := X8.heap.size) rfl _ _ rfl rfl BM.out.l LB.out (⟨#[45]⟩, ⟨#[]⟩) ?hgg rfl rfl LN.out ?_)
  case hgg => simp
  intro v' w' h1 h2
  obtain ⟨a2, c9, hv2⟩ := h1.slice
  have hv3 : v' = .slice a2 (o.ls.length + 1) c9 := by rw [hv2, List.length_append]; rfl
  clear hv2
  subst hv3
  have GN := Lib.hid (BM.out.grownL h2)
  have z2 : w'.cell? ⟨bm, 2, none⟩ = some (.slice xb o.ls.length xd) := by rw [cell_of_row w' bm 2 _ _ _ GN.out]; rfl
  have f2 : w'.frozen? ⟨bm, 2, none⟩ = false := frozen_of_row _ _ _ _ _ GN.out
  have NM := BM.out.label h1 h2
  obtain ⟨Wm, hWm⟩ : ∃ Wm, w'.setCell ⟨bm, 2, none⟩ (.slice a2 (o.ls.length + 1) c9) = Wm := ⟨_, rfl⟩
  rw [hWm] at NM
  have BXm : Below Wn.heap.size Wn Wm := BX8.out.trans NM.2
  have KM := Lib.hid (K.out.below BXm)
  have ND2 := Lib.hid (ND.out.below BXm)
  have MD := Lib.hid NM.1
  have FM : Hid (obR { o with ls := o.ls ++ [(⟨#[45]⟩, ⟨#[]⟩)] } = (⟨#[]⟩, 130) ∧ ({ o with ls := o.ls ++ [(⟨#[45]⟩, ⟨#[]⟩)] } : Ob).Fit) := Lib.hid (by
    refine ⟨obR_no (obS_label o), ⟨H_O.out.2.1.s, fun y hy => ?_, H_O.out.2.1.p, H_O.out.2.1.n⟩⟩
    rcases List.mem_append.1 hy with q | q
    · exact H_O.out.2.1.l y q
    · rw [List.mem_singleton.1 q]; exact ⟨by decide, by decide⟩)
  clear K ND BM BX8 LN LB h1 h2 GN NM BXm c2 hX82 hbm2
  have K := KM
  clear KM
  have pc : ∀ j y, (#[.string o.p, .string o.n, .slice la o.ls.length lc, .int .i64 o.pr, .int .i64 o.dl, .slice pa o.ps.length pc, .int .i64 o.ver] : Array Value)[j]? = some y → Wm.cell? ⟨w.heap.size, j, none⟩ = some y := fun j y hy => by rw [cell_of_row Wm w.heap.size j _ _ _ K.out.o]; exact hy
  have p0 := pc 0 _ rfl
  have p1 := pc 1 _ rfl
  have p2 := pc 2 _ rfl
  have p3 := pc 3 _ rfl
  have p4 := pc 4 _ rfl
  have p5 := pc 5 _ rfl
  have p6 := pc 6 _ rfl
  clear pc
  have OA := Lib.hid (ownObject_any o _ _ Wm (H_O.out.1.below K.out.be) H_O.out.2.2.1 H_O.out.2.2.2.1 H_O.out.2.2.2.2)
  unfold Ob.val at OA
  go_wp2_with fail
  clear z2 f2 hWm
  refine OA.out.mono ?_
  rintro e W9 ⟨vl, vp, rfl, hv, hb⟩
  clear OA p0 p1 p2 p3 p4 p5 p6
  obtain ⟨xe, xf, rfl, _, _⟩ := hv.obv.l.len
  obtain ⟨ye, yf, rfl, _, _⟩ := hv.obv.p.len
  obtain ⟨X9, hX9⟩ : ∃ X, X = W9.alloc (.cells #[.string o.p, .string o.n, .slice xe o.ls.length xf, .int .i64 o.pr, .int .i64 o.dl, .slice ye o.ps.length yf, .int .i64 o.ver] 25) := ⟨_, rfl⟩
  obtain ⟨bk, hbk⟩ : ∃ b, b = W9.heap.size := ⟨_, rfl⟩
  obtain ⟨rsBK9, BK90⟩ := BO.start hv hb.size hX9 hbk
  have AX9 : Below W9.heap.size W9 X9 := by rw [hX9]; exact (Below.refl _ _).alloc (Nat.le_refl _) _
  have BX9 := Lib.hid (hb.trans (AX9.mono hb.size))
  have BK9 := Lib.hid BK90
  have hX92 := hX9.symm
  have hbk2 := hbk.symm
  clear hX9 hbk AX9 hv hb BK90
  have q0 : X9.cell? ⟨bk, 0, none⟩ = some (.string o.p) := by rw [cell_of_row X9 bk 0 _ _ _ BK9.out.o]; rfl
  have f0 : X9.frozen? ⟨bk, 0, none⟩ = false := frozen_of_row _ _ _ _ _ BK9.out.o
  have KX := Lib.hid (K.out.below BX9.out)
  have p0 : X9.cell? ⟨w.heap.size, 0, none⟩ = some (.string o.p) := by rw [cell_of_row X9 _ 0 _ _ _ KX.out.o]; rfl
  have PS1 := Lib.hid (obS_psize HS.out)
  have ps1 : ¬ (9223372036854775807 < o.p.size + 1) := by have := PS1.out; omega
  obtain ⟨Wk, hWk⟩ : ∃ Wk, Wk = X9.setCell ⟨bk, 0, none⟩ (.string (o.p ++ ⟨#[47]⟩)) := ⟨_, rfl⟩
  have NK := BK9.out.path (o.p ++ ⟨#[47]⟩)
  rw [← hWk] at NK
  have BXk : Below Wm.heap.size Wm Wk := BX9.out.trans NK.2
  have KM := Lib.hid (K.out.below BXk)
  have ND3 := Lib.hid (ND2.out.below BXk)
  have MD2 := Lib.hid (MD.out.below BXk)
  have KD := Lib.hid NK.1
  have FK : Hid (obR { o with p := o.p ++ ⟨#[47]⟩ } = (⟨#[]⟩, 130) ∧ ({ o with p := o.p ++ ⟨#[47]⟩ } : Ob).Fit) := Lib.hid ⟨obR_no (obS_path HS.out), ⟨⟨by show (o.p ++ ⟨#[47]⟩).size ≤ _; rw [ByteArray.size_append]; have := PS1.out; show o.p.size + 1 ≤ _; omega, H_O.out.2.1.s.2⟩, H_O.out.2.1.l, H_O.out.2.1.p, H_O.out.2.1.n⟩⟩
  have hWk2 := hWk.symm
  clear K ND2 MD BK9 BX9 NK BXk KX hWk
  have K := KM
  clear KM
  have sc : ∀ j y, (#[.string o.p, .string o.n, .slice xa o.ls.length xc, .int .i64 o.pr, .int .i64 o.dl, .slice a6 n6 c6, .int .i64 o.ver] : Array Value)[j]? = some y → Wk.cell? ⟨bn, j, none⟩ = some y := fun j y hy => by rw [cell_of_row Wk bn j _ _ _ ND3.out.o]; exact hy
  have s0 := sc 0 _ rfl
  have s1 := sc 1 _ rfl
  have s2 := sc 2 _ rfl
  have s3 := sc 3 _ rfl
  have s4 := sc 4 _ rfl
  have s5 := sc 5 _ rfl
  have s6 := sc 6 _ rfl
  clear sc
  have VA := Lib.hid (valido_any { o with ps := o.ps ++ [o.ps.getD m ⟨⟨#[]⟩, [], []⟩] } _ _ Wk (HM.out.below K.out.be) ND3.out.obv FN.out.2)
  rw [FN.out.1] at VA
  unfold Ob.val at VA
  simp only at VA
  go_wp2_with fail
  clear hWk2 hX92 hbk2 q0 f0 p0 ps1
  refine VA.out.mono ?_
  rintro e V1 ⟨rfl, hb⟩
  clear VA s0 s1 s2 s3 s4 s5 s6
  have K2 := Lib.hid (K.out.below hb)
  clear K
  have K := K2
  clear K2
  have MD3 := Lib.hid (MD2.out.below hb)
  have KD2 := Lib.hid (KD.out.below hb)
  clear hb MD2 KD ND3
  have sc : ∀ j y, (#[.string o.p, .string o.n, (.slice a2 (o.ls.length + 1) c9), .int .i64 o.pr, .int .i64 o.dl, .slice yb o.ps.length yd, .int .i64 o.ver] : Array Value)[j]? = some y → V1.cell? ⟨bm, j, none⟩ = some y := fun j y hy => by rw [cell_of_row V1 bm j _ _ _ MD3.out.o]; exact hy
  have s0 := sc 0 _ rfl
  have s1 := sc 1 _ rfl
  have s2 := sc 2 _ rfl
  have s3 := sc 3 _ rfl
  have s4 := sc 4 _ rfl
  have s5 := sc 5 _ rfl
  have s6 := sc 6 _ rfl
  clear sc
  have VA := Lib.hid (valido_any { o with ls := o.ls ++ [(⟨#[45]⟩, ⟨#[]⟩)] } _ _ V1 (HM.out.below K.out.be) MD3.out.obv FM.out.2)
  rw [FM.out.1] at VA
  unfold Ob.val at VA
  simp only at VA
  go_wp2_with fail
  skip
  refine VA.out.mono ?_
  rintro e V2 ⟨rfl, hb⟩
  clear VA s0 s1 s2 s3 s4 s5 s6
  have K2 := Lib.hid (K.out.below hb)
  clear K
  have K := K2
  clear K2
  have KD3 := Lib.hid (KD2.out.below hb)
  clear hb MD3 KD2
  have sc : ∀ j y, (#[.string (o.p ++ ⟨#[47]⟩), .string o.n, .slice xe o.ls.length xf, .int .i64 o.pr, .int .i64 o.dl, .slice ye o.ps.length yf, .int .i64 o.ver] : Array Value)[j]? = some y → V2.cell? ⟨bk, j, none⟩ = some y := fun j y hy => by rw [cell_of_row V2 bk j _ _ _ KD3.out.o]; exact hy
  have s0 := sc 0 _ rfl
  have s1 := sc 1 _ rfl
  have s2 := sc 2 _ rfl
  have s3 := sc 3 _ rfl
  have s4 := sc 4 _ rfl
  have s5 := sc 5 _ rfl
  have s6 := sc 6 _ rfl
  clear sc
  have VA := Lib.hid (valido_any { o with p := o.p ++ ⟨#[47]⟩ } _ _ V2 (HM.out.below K.out.be) KD3.out.obv FK.out.2)
  rw [FK.out.1] at VA
  unfold Ob.val at VA
  simp only at VA
  go_wp2_with fail
  skip
  refine VA.out.mono ?_
  rintro e V3 ⟨rfl, hb⟩
  clear VA s0 s1 s2 s3 s4 s5 s6
  have K2 := Lib.hid (K.out.below hb)
  clear K
  have K := K2
  clear K2
  clear hb
  go_wp2_with fail
  go_ret
  exact ⟨rfl, K.out.be⟩
end Go.Proofs.YthomdgnmoapbkaaDoor
end S0
