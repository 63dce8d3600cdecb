/-
  The law's plays: a step on both devices.
-/
import Derived.Test.YtojemioophlplaaSdD
import Derived.Test.YtojemioophlplaaOfA
namespace Go.Proofs.Ytojemioophlplaa
open Go.RowKit Go.Maps
namespace Rf
variable {B : Nat} {w0 w w' W W' : World} {p d mb mp : Nat} {cv cv' : Value} {x : Nat} {bv lv kv bv' lv' kv' : Value} {s s' : DS} {r r' : RD} {F : Nat → Prop} {oc : Array Value} {n : Nat}
set_option maxHeartbeats 8000000 in
set_option maxRecDepth 100000 in
theorem plays_any (o : OpD) (w0 w : World) (p : Nat) (F : Nat → Prop) (n : Nat) (H : Sd w0 w p F n) (hn : n ≤ 1100000) (ho : o.At w0) :
    Calls Try.prog 5 #[.pointer (some ⟨p, 0, none⟩), .agg o.cells.toArray] w (SdQ w0 w p F n) := by
  obtain ⟨⟨d, mb, mp, cv, x, bv, lv, kv, s, r, hm, hr, hw, hl, hF⟩, hb⟩ := H
  have HO := Lib.hid ho
  obtain ⟨C, hC⟩ : ∃ C, C = o.cells.toArray := ⟨_, rfl⟩
  rw [← hC]
  obtain ⟨X, hX⟩ : ∃ X, X = w.alloc (.cells C 33) := ⟨_, rfl⟩
  have PX : Hid (PH w0 w F C p d mb mp x bv X cv lv kv s r) := Lib.hid (by rw [hX]; exact Ph.start hm hF hb)
  have PD : Hid (PH w0 w F C p d mb mp x bv X.drew cv lv kv s r) := Lib.hid (PX.out.below (Below.refl _ _).drew)
  have BX : Hid (Below w.heap.size w X ∧ Below w0.heap.size w0 X) := Lib.hid ⟨by rw [hX]; exact (Below.refl _ _).alloc (Nat.le_refl _) _, PX.out.bel⟩
  have SX : Hid (Sd w0 X p F n) := Lib.hid ⟨⟨d, mb, mp, cv, x, bv, lv, kv, s, r, PX.out.mem, hr, hw, hl, hF⟩, PX.out.bel⟩
  have RR := Lib.hid hr
  have WW : Hid (w0.heap.size ≤ w.heap.size) := Lib.hid hb.size
  have NN : Hid (s.ws ≤ n ∧ r.laid.length + r.cache.length ≤ n ∧ n ≤ 1100000) := Lib.hid ⟨hw, hl, hn⟩
  obtain ⟨g, hg⟩ : ∃ g, g = w.heap.size := ⟨_, rfl⟩
  have OP : Hid (∀ W cv lv kv s r d mb mp x bv, PH w0 w F C p d mb mp x bv W cv lv kv s r → W.cell? ⟨g, 0, none⟩ = some (.bool o.two) ∧ W.cell? ⟨g, 1, none⟩ = some (.int .i64 o.kind) ∧ W.cell? ⟨g, 2, none⟩ = some (.int .i64 o.blk) ∧ W.cell? ⟨g, 3, none⟩ = some (.int .i64 o.n) ∧ W.cell? ⟨g, 4, none⟩ = some (.int .i64 o.len) ∧ W.cell? ⟨g, 5, none⟩ = some (.int .u8 (c8 o.fill)) ∧ W.cell? ⟨g, 6, none⟩ = some o.bv ∧ W.cell? ⟨g, 7, none⟩ = some o.fv) := Lib.hid (fun W cv lv kv s r d mb mp x bv h => by
    have e := Ph.op h
    rw [hC] at e
    rw [hg]
    exact ⟨e 0, e 1, e 2, e 3, e 4, e 5, e 6, e 7⟩)
  have CF : Hid (∀ W cv lv kv s r, PH w0 w F C p d mb mp x bv W cv lv kv s r → W.cell? ⟨p, 0, none⟩ = some (.pointer (some ⟨d, 0, none⟩)) ∧ W.cell? ⟨p, 1, none⟩ = some (.pointer (some ⟨x, 0, none⟩))) := Lib.hid (fun W cv lv kv s r h => Ph.cells h)
  have CD : Hid (∀ W cv lv kv s r, PH w0 w F C p d mb mp x bv W cv lv kv s r → W.drew.cell? ⟨p, 0, none⟩ = some (.pointer (some ⟨d, 0, none⟩)) ∧ W.drew.cell? ⟨p, 1, none⟩ = some (.pointer (some ⟨x, 0, none⟩))) := Lib.hid (fun W cv lv kv s r h => Ph.cells (Ph.below h (Below.refl W.heap.size W).drew))
  obtain ⟨o0, o1, o2, o3, o4, o5, o6, o7⟩ := OP.out _ _ _ _ _ _ _ _ _ _ _ PX.out
  obtain ⟨a0, a1⟩ := CF.out _ _ _ _ _ _ PX.out
  obtain ⟨b0, b1⟩ := CD.out _ _ _ _ _ _ PX.out
  have hX' := hX.symm
  have hg' := hg.symm
  have CC := Lib.hid hC
  have GG := Lib.hid hg
  obtain ⟨kind, hkind⟩ : ∃ k, k = o.kind := ⟨_, rfl⟩
  obtain ⟨blk, hblk⟩ : ∃ k, k = o.blk := ⟨_, rfl⟩
  obtain ⟨num, hnum⟩ : ∃ k, k = o.n := ⟨_, rfl⟩
  rw [← hkind] at o1 OP
  rw [← hblk] at o2 OP
  rw [← hnum] at o3 OP
  have KB : Hid (blk = o.blk ∧ num = o.n ∧ kind = o.kind) := Lib.hid ⟨hblk, hnum, hkind⟩
  clear hm hr hw hl hF hb hn ho hC hX hg hkind hblk hnum
  by_cases hk4 : kind = 4
  · as_aux_lemma =>
    have hk := hk4
    clear hk4
    subst hk
    have EQ := Lib.hid (flush_same RR.out)
    obtain ⟨c, hc⟩ : ∃ c, c = (flD s).2 := ⟨_, rfl⟩
    have C1 : Hid (∀ W, PH w0 w F C p d mb mp x bv W cv lv kv s r → Calls Try.prog 13 #[.pointer (some ⟨d, 0, none⟩)] W fun e w' => e = .returned (.int .i64 c) ∧ ∃ cv', PH w0 w F C p d mb mp x bv w' cv' lv kv (flD s).1 r) := Lib.hid (fun W h => by rw [hc]; exact ph_flush h (by have := NN.out; omega))
    have C2 : Hid (∀ W cv, PH w0 w F C p d mb mp x bv W cv lv kv (flD s).1 r → Calls Try.prog 14 #[.pointer (some ⟨x, 0, none⟩)] W fun e w' => e = .returned (.int .i64 c) ∧ ∃ lv' kv', PH w0 w F C p d mb mp x bv w' cv lv' kv' (flD s).1 (flR r).1) := Lib.hid (fun W cv h => by rw [hc, ← EQ.out.1]; exact ph_rflush h (by have := NN.out; omega))
    have cc : (c == c) = true := beq_self_eq_true _
    clear hc o0 o2 o3 o4 o5 o6 o7
    go_enter Try.func5, Try.ntmps5
    go_wp2_with fail
    go_region_held3 (fun W : World => W.cell? ⟨p, 0, none⟩ = some (.pointer (some ⟨d, 0, none⟩)) ∧ W.cell? ⟨p, 1, none⟩ = some (.pointer (some ⟨x, 0, none⟩))) (first | exact ⟨by assumption, by assumption⟩ | go_keep) (first
      | (go_at_call 13
         refine (C1.out _ (by first | exact PX.out | exact PD.out)).mono ?_
         rintro e w1 ⟨rfl, cv1, hp1⟩
         have P1 := Lib.hid hp1
         obtain ⟨x0, x1⟩ := CF.out _ _ _ _ _ _ hp1
         clear hp1)
      | (go_at_call 14
         refine (C2.out _ cv1 (by first | exact P1.out | exact Ph.below P1.out (Below.refl _ _).drew)).mono ?_
         rintro e w2 ⟨rfl, lv2, kv2, hp2⟩
         have P2 := Lib.hid hp2
         obtain ⟨z0, z1⟩ := CF.out _ _ _ _ _ _ hp2
         clear hp2))
    all_goals
      go_wp2_with fail
      go_ret
      exact ⟨by simp, Ph.fin P2.out EQ.out.2 (by rw [flush_keeps]; have := NN.out; omega) (by rw [rflush_keeps]; have := NN.out; omega)⟩
  by_cases hk6 : kind = 6
  · as_aux_lemma =>
    have hk := hk6
    clear hk6
    subst hk
    have EQ := Lib.hid (arm_same RR.out num)
    obtain ⟨c, hc⟩ : ∃ c, c = (armD s num).2 := ⟨_, rfl⟩
    have C1 : Hid (∀ W, PH w0 w F C p d mb mp x bv W cv lv kv s r → Calls Try.prog 15 #[.pointer (some ⟨d, 0, none⟩), .int .i64 num] W fun e w' => e = .returned (.int .i64 c) ∧ PH w0 w F C p d mb mp x bv w' cv lv kv (armD s num).1 r) := Lib.hid (fun W h => by rw [hc]; exact ph_arm h num)
    have C2 : Hid (∀ W, PH w0 w F C p d mb mp x bv W cv lv kv (armD s num).1 r → Calls Try.prog 16 #[.pointer (some ⟨x, 0, none⟩), .int .i64 num] W fun e w' => e = .returned (.int .i64 c) ∧ ∃ lv' kv', PH w0 w F C p d mb mp x bv w' cv lv' kv' (armD s num).1 (armR r num).1) := Lib.hid (fun W h => by rw [hc, ← EQ.out.1]; exact ph_rarm h num)
    have cc : (c == c) = true := beq_self_eq_true _
    obtain ⟨-, -, -, d3, -, -, -, -⟩ := OP.out _ _ _ _ _ _ _ _ _ _ _ PD.out
    clear hc o0 o2 o4 o5 o6 o7
    go_enter Try.func5, Try.ntmps5
    go_wp2_with fail
    go_region_held3 (fun W : World => W.cell? ⟨p, 0, none⟩ = some (.pointer (some ⟨d, 0, none⟩)) ∧ W.cell? ⟨p, 1, none⟩ = some (.pointer (some ⟨x, 0, none⟩)) ∧ W.cell? ⟨g, 3, none⟩ = some (.int .i64 num)) (first | exact ⟨by assumption, by assumption, by assumption⟩ | go_keep) (first
      | (go_at_call 15
         refine (C1.out _ (by first | exact PX.out | exact PD.out)).mono ?_
         rintro e w1 ⟨rfl, hp1⟩
         have P1 := Lib.hid hp1
         obtain ⟨x0, x1⟩ := CF.out _ _ _ _ _ _ hp1
         obtain ⟨-, -, -, x3, -, -, -, -⟩ := OP.out _ _ _ _ _ _ _ _ _ _ _ hp1
         clear hp1)
      | (go_at_call 16
         refine (C2.out _ (by first | exact P1.out | exact Ph.below P1.out (Below.refl _ _).drew)).mono ?_
         rintro e w2 ⟨rfl, lv2, kv2, hp2⟩
         have P2 := Lib.hid hp2
         obtain ⟨z0, z1⟩ := CF.out _ _ _ _ _ _ hp2
         obtain ⟨-, -, -, z3, -, -, -, -⟩ := OP.out _ _ _ _ _ _ _ _ _ _ _ hp2
         clear hp2))
    all_goals
      go_wp2_with fail
      go_ret
      exact ⟨by simp, Ph.fin P2.out EQ.out.2 (by rw [arm_keeps]; have := NN.out; omega) (by rw [(rarm_keeps r num).1, (rarm_keeps r num).2]; have := NN.out; omega)⟩
  by_cases hk3 : kind = 3
  · as_aux_lemma =>
    have hk := hk3
    clear hk3
    subst hk
    obtain ⟨l, hl⟩ : ∃ l, l = blkB o := ⟨_, rfl⟩
    have EQ : Hid (∀ y : Ly, y.b = blk.toNat → y.a = 0 → y.l = l → (wrR r blk l y).2 = (wrE s blk l).2 ∧ Rel (wrE s blk l).1 (wrR r blk l y).1) := Lib.hid (fun y h1 h2 h3 => write_same RR.out blk l y h1 h2 h3)
    obtain ⟨c, hc⟩ : ∃ c, c = (wrE s blk l).2 := ⟨_, rfl⟩
    have BL : Hid (∀ W, Calls Try.prog 9 #[.agg #[.bool o.two, .int .i64 3, .int .i64 blk, .int .i64 num, .int .i64 o.len, .int .u8 (c8 o.fill), o.bv, o.fv]] W fun e w' => ∃ v, e = .returned v ∧ Own W.heap.size w' v l ∧ Below W.heap.size W w') := Lib.hid (fun W => by
      have e := block_any o W
      unfold OpD.cells at e
      rw [← hl, ← KB.out.1, ← KB.out.2.1, ← KB.out.2.2] at e
      exact e)
    have C1 : Hid (∀ W v B', PH w0 w F C p d mb mp x bv W cv lv kv s r → Own B' W v l → Calls Try.prog 10 #[.pointer (some ⟨d, 0, none⟩), .int .i64 blk, v] W fun e w' => e = .returned (.int .i64 c) ∧ (∃ cv', PH w0 w F C p d mb mp x bv w' cv' lv kv (wrE s blk l).1 r) ∧ RK W w') := Lib.hid (fun W v B' h ho => by rw [hc]; exact ph_write h (by have := NN.out; omega) blk ho)
    have C2 : Hid (∀ W cv v B', PH w0 w F C p d mb mp x bv W cv lv kv (wrE s blk l).1 r → Own B' W v l → Calls Try.prog 11 #[.pointer (some ⟨x, 0, none⟩), .int .i64 blk, v] W fun e w' => e = .returned (.int .i64 c) ∧ (∃ lv' kv' r', PH w0 w F C p d mb mp x bv w' cv lv' kv' (wrE s blk l).1 r' ∧ SdP w0 w p F n w') ∧ RK W w') := Lib.hid (fun W cv v B' h ho => by
      refine (ph_rwrite h (by have := NN.out; omega) blk ho).mono ?_
      rintro e w' ⟨y, rfl, ⟨lv', kv', hp⟩, ⟨h1, h2, h3⟩, hk⟩
      have E := EQ.out y h1 h2 h3
      rw [E.1, ← hc]
      exact ⟨rfl, ⟨lv', kv', _, hp, Ph.fin hp E.2 (by have := write_keeps s blk l; have := NN.out; omega) (by have := rwrite_keeps r blk l y; have := NN.out; omega)⟩, hk⟩)
    have cc : (c == c) = true := beq_self_eq_true _
    clear hc hl
    go_enter Try.func5, Try.ntmps5
    go_wp2_with fail
    refine (BL.out _).mono ?_
    rintro e w1 ⟨v1, rfl, ho1, hb1⟩
    obtain ⟨aa, ca, rfl⟩ := own_slice ho1
    have P1 := Lib.hid (And.intro (Ph.below PX.out hb1) ho1)
    obtain ⟨x0, x1⟩ := CF.out _ _ _ _ _ _ P1.out.1
    obtain ⟨s0, s1, s2, s3, s4, s5, s6, s7⟩ := OP.out _ _ _ _ _ _ _ _ _ _ _ P1.out.1
    clear ho1 hb1 o0 o1 o2 o3 o4 o5 o6 o7 a0 a1 b0 b1 hX'
    go_wp2_with fail
    refine (BL.out _).mono ?_
    rintro e w2 ⟨v2, rfl, ho2, hb2⟩
    obtain ⟨ab, cb, rfl⟩ := own_slice ho2
    have P2 := Lib.hid (And.intro (Ph.below P1.out.1 hb2) (And.intro (P1.out.2.below hb2) ho2))
    obtain ⟨y0, y1⟩ := CF.out _ _ _ _ _ _ P2.out.1
    obtain ⟨yd0, yd1⟩ := CD.out _ _ _ _ _ _ P2.out.1
    obtain ⟨-, -, y2, -, -, -, -, -⟩ := OP.out _ _ _ _ _ _ _ _ _ _ _ P2.out.1
    obtain ⟨-, -, yd2, -, -, -, -, -⟩ := OP.out _ _ _ _ _ _ _ _ _ _ _ (Ph.below P2.out.1 (Below.refl w2.heap.size w2).drew)
    have PE : Hid (PH w0 w F C p d mb mp x bv w2.drew cv lv kv s r) := Lib.hid (Ph.below P2.out.1 (Below.refl w2.heap.size w2).drew)
    clear ho2 hb2 s0 s1 s2 s3 s4 s5 s6 s7 x0 x1
    go_wp2_with fail
    go_region_held3 (fun W : World => W.cell? ⟨p, 0, none⟩ = some (.pointer (some ⟨d, 0, none⟩)) ∧ W.cell? ⟨p, 1, none⟩ = some (.pointer (some ⟨x, 0, none⟩)) ∧ W.cell? ⟨g, 2, none⟩ = some (.int .i64 blk)) (first | exact ⟨by assumption, by assumption, by assumption⟩ | go_keep) (first
      | (go_at_call 10
         refine (C1.out _ _ _ (by first | exact P2.out.1 | exact PE.out) (by first | exact P2.out.2.1 | exact P2.out.2.1.below (Below.refl _ _).drew)).mono ?_
         rintro e w3 ⟨rfl, ⟨cv3, hp3⟩, hk3⟩
         have P3 := Lib.hid (And.intro hp3 (And.intro (hk3.own (by first | exact P2.out.2.1 | exact P2.out.2.1.below (Below.refl _ _).drew)) (hk3.own (by first | exact P2.out.2.2 | exact P2.out.2.2.below (Below.refl _ _).drew))))
         obtain ⟨t0, t1⟩ := CF.out _ _ _ _ _ _ hp3
         obtain ⟨td0, td1⟩ := CD.out _ _ _ _ _ _ hp3
         obtain ⟨-, -, t2, -, -, -, -, -⟩ := OP.out _ _ _ _ _ _ _ _ _ _ _ hp3
         obtain ⟨-, -, td2, -, -, -, -, -⟩ := OP.out _ _ _ _ _ _ _ _ _ _ _ (Ph.below hp3 (Below.refl w3.heap.size w3).drew)
         clear hp3 hk3))
    all_goals
      go_wp2_with fail
      go_region_held3 (fun W : World => W.cell? ⟨p, 0, none⟩ = some (.pointer (some ⟨d, 0, none⟩)) ∧ W.cell? ⟨p, 1, none⟩ = some (.pointer (some ⟨x, 0, none⟩)) ∧ W.cell? ⟨g, 2, none⟩ = some (.int .i64 blk)) (first | exact ⟨by assumption, by assumption, by assumption⟩ | go_keep) (first
        | (go_at_call 11
           refine (C2.out _ cv3 _ _ (by first | exact P3.out.1 | exact Ph.below P3.out.1 (Below.refl _ _).drew) (by first | exact P3.out.2.2 | exact P3.out.2.2.below (Below.refl _ _).drew)).mono ?_
           rintro e w4 ⟨rfl, ⟨lv4, kv4, r4, hp4, hs4⟩, hk4⟩
           have P4 := Lib.hid (And.intro hs4 (And.intro (hk4.own (by first | exact P3.out.2.1 | exact P3.out.2.1.below (Below.refl _ _).drew)) (hk4.own (by first | exact P3.out.2.2 | exact P3.out.2.2.below (Below.refl _ _).drew))))
           obtain ⟨u0, u1⟩ := CF.out _ _ _ _ _ _ hp4
           obtain ⟨-, -, u2, -, -, -, -, -⟩ := OP.out _ _ _ _ _ _ _ _ _ _ _ hp4
           clear hp4 hs4 hk4)
        | (go_at_call 12
           refine (same_yes _ _ l _ P4.out.2.1.bytes P4.out.2.2.bytes).mono ?_
           rintro e w5 ⟨rfl, rfl⟩))
      all_goals
        go_wp2_with fail
        go_ret
        exact ⟨by simp, P4.out.1⟩
  by_cases hk9 : kind = 9
  · as_aux_lemma =>
    have hk := hk9
    clear hk9
    subst hk
    obtain ⟨bb, hbb⟩ : ∃ v, v = o.bv := ⟨_, rfl⟩
    obtain ⟨l, hl⟩ : ∃ l, l = o.bs := ⟨_, rfl⟩
    have HB : Hid (Bytes w0 bb l ∧ l.length ≤ 140737488355328) := Lib.hid ⟨by rw [hbb, hl]; exact HO.out.1, by rw [hl]; exact HO.out.2.2.1⟩
    rw [← hbb] at o6 OP
    have EQ : Hid (∀ y : Ly, y.b = blk.toNat → y.a = num.toNat → y.l = l → (edR r blk num l y).2 = (edD s blk num l).2 ∧ Rel (edD s blk num l).1 (edR r blk num l y).1) := Lib.hid (fun y h1 h2 h3 => edit_same RR.out blk num l y h1 h2 h3)
    obtain ⟨c, hc⟩ : ∃ c, c = (edD s blk num l).2 := ⟨_, rfl⟩
    have C1 : Hid (∀ W v, PH w0 w F C p d mb mp x bv W cv lv kv s r → Bytes W v l → Calls Try.prog 19 #[.pointer (some ⟨d, 0, none⟩), .int .i64 blk, .int .i64 num, v] W fun e w' => e = .returned (.int .i64 c) ∧ PH w0 w F C p d mb mp x bv w' cv lv kv (edD s blk num l).1 r ∧ RK W w') := Lib.hid (fun W v h ho => by rw [hc]; exact ph_edit h blk num ho)
    have C2 : Hid (∀ W, PH w0 w F C p d mb mp x bv W cv lv kv (edD s blk num l).1 r → Calls Try.prog 20 #[.pointer (some ⟨x, 0, none⟩), .int .i64 blk, .int .i64 num, bb] W fun e w' => e = .returned (.int .i64 c) ∧ (∃ lv' kv' r', PH w0 w F C p d mb mp x bv w' cv lv' kv' (edD s blk num l).1 r' ∧ SdP w0 w p F n w') ∧ RK W w') := Lib.hid (fun W h => by
      refine (ph_redit h (by have := NN.out; omega) blk num (HB.out.1.below (Ph.bel h))).mono ?_
      rintro e w' ⟨y, rfl, ⟨lv', kv', hp⟩, ⟨h1, h2, h3⟩, hk⟩
      have E := EQ.out y h1 h2 h3
      rw [E.1, ← hc]
      exact ⟨rfl, ⟨lv', kv', _, hp, Ph.fin hp E.2 (by rw [edit_keeps]; have := NN.out; omega) (by have := redit_keeps r blk num l y; have := NN.out; omega)⟩, hk⟩)
    have cc : (c == c) = true := beq_self_eq_true _
    have E0 : Hid (Own X.heap.size X (.slice none 0 0) []) := Lib.hid (World.ownsRow_nil _ _ _ _)
    have VX : Hid (Bytes X bb l) := Lib.hid (HB.out.1.below BX.out.2)
    have LB : Hid (([] : List UInt8).length + l.length ≤ 140737488355328) := Lib.hid (by simpa using HB.out.2)
    clear hc hbb hl o0 o4 o5 o7
    go_enter Try.func5, Try.ntmps5
    go_wp2_with (at_builtin; refine app_bytes (B := X.heap.size) (v := .slice none 0 0) (l := []) (m := l) rfl (.const (.slice none 0 0)) (.tmp 125) rfl rfl E0.out (Nat.le_refl _) rfl VX.out LB.out ?_)
    intro v1 w1 h1 h2 _
    have P1 : Hid (PH w0 w F C p d mb mp x bv w1 cv lv kv s r ∧ Own X.heap.size w1 v1 l) := Lib.hid ⟨Ph.below PX.out ((Below.refl _ X).grown h2 (Nat.le_refl _) (by intro k hk; cases hk)), by simpa using h1⟩
    obtain ⟨aa, ca, rfl⟩ := own_slice P1.out.2
    obtain ⟨x0, x1⟩ := CF.out _ _ _ _ _ _ P1.out.1
    obtain ⟨xd0, xd1⟩ := CD.out _ _ _ _ _ _ P1.out.1
    obtain ⟨-, -, x2, x3, -, -, x6, x7⟩ := OP.out _ _ _ _ _ _ _ _ _ _ _ P1.out.1
    have PE : Hid (PH w0 w F C p d mb mp x bv w1.drew cv lv kv s r) := Lib.hid (Ph.below P1.out.1 (Below.refl w1.heap.size w1).drew)
    obtain ⟨-, -, xd2, xd3, -, -, xd6, xd7⟩ := OP.out _ _ _ _ _ _ _ _ _ _ _ PE.out
    clear h1 h2 o1 o2 o3 o6 a0 a1 b0 b1 hX' E0 VX
    go_wp2_with fail
    go_region_held3 (fun W : World => W.cell? ⟨p, 0, none⟩ = some (.pointer (some ⟨d, 0, none⟩)) ∧ W.cell? ⟨p, 1, none⟩ = some (.pointer (some ⟨x, 0, none⟩)) ∧ W.cell? ⟨g, 2, none⟩ = some (.int .i64 blk) ∧ W.cell? ⟨g, 3, none⟩ = some (.int .i64 num) ∧ W.cell? ⟨g, 6, none⟩ = some bb) (first | exact ⟨by assumption, by assumption, by assumption, by assumption, by assumption⟩ | go_keep) (first
      | (go_at_call 19
         refine (C1.out _ _ (by first | exact P1.out.1 | exact PE.out) (by first | exact P1.out.2.bytes | exact (P1.out.2.below (Below.refl _ _).drew).bytes)).mono ?_
         rintro e w3 ⟨rfl, hp3, hk3⟩
         have P3 := Lib.hid (And.intro hp3 (hk3.own (by first | exact P1.out.2 | exact P1.out.2.below (Below.refl _ _).drew)))
         obtain ⟨t0, t1⟩ := CF.out _ _ _ _ _ _ hp3
         obtain ⟨td0, td1⟩ := CD.out _ _ _ _ _ _ hp3
         obtain ⟨-, -, t2, t3, -, -, t6, t7⟩ := OP.out _ _ _ _ _ _ _ _ _ _ _ hp3
         obtain ⟨-, -, td2, td3, -, -, td6, td7⟩ := OP.out _ _ _ _ _ _ _ _ _ _ _ (Ph.below hp3 (Below.refl w3.heap.size w3).drew)
         clear hp3 hk3))
    all_goals
      go_wp2_with fail
      go_region_held3 (fun W : World => W.cell? ⟨p, 0, none⟩ = some (.pointer (some ⟨d, 0, none⟩)) ∧ W.cell? ⟨p, 1, none⟩ = some (.pointer (some ⟨x, 0, none⟩)) ∧ W.cell? ⟨g, 2, none⟩ = some (.int .i64 blk) ∧ W.cell? ⟨g, 3, none⟩ = some (.int .i64 num) ∧ W.cell? ⟨g, 6, none⟩ = some bb) (first | exact ⟨by assumption, by assumption, by assumption, by assumption, by assumption⟩ | go_keep) (first
        | (go_at_call 20
           refine (C2.out _ (by first | exact P3.out.1 | exact Ph.below P3.out.1 (Below.refl _ _).drew)).mono ?_
           rintro e w4 ⟨rfl, ⟨lv4, kv4, r4, hp4, hs4⟩, hk4⟩
           have P4 := Lib.hid (And.intro hs4 (And.intro (hk4.own (by first | exact P3.out.2 | exact P3.out.2.below (Below.refl _ _).drew)) (HB.out.1.below (Ph.bel hp4))))
           obtain ⟨u0, u1⟩ := CF.out _ _ _ _ _ _ hp4
           obtain ⟨-, -, u2, u3, -, -, u6, u7⟩ := OP.out _ _ _ _ _ _ _ _ _ _ _ hp4
           clear hp4 hs4 hk4)
        | (go_at_call 12
           refine (same_yes _ _ l _ P4.out.2.1.bytes P4.out.2.2).mono ?_
           rintro e w5 ⟨rfl, rfl⟩))
      all_goals
        go_wp2_with fail
        go_ret
        exact ⟨by simp, P4.out.1⟩
  by_cases hk12 : kind = 12
  · as_aux_lemma =>
    have hk := hk12
    clear hk12
    subst hk
    have FT : Hid (s.med.length = 512 * s.n ∧ 64 ≤ s.n ∧ s.n ≤ 4096) := Lib.hid ⟨PX.out.mem.dv.fit.len, PX.out.mem.dv.fit.lo, PX.out.mem.dv.fit.hi⟩
    have EM := Lib.hid RR.out.med
    clear o0 o2 o3 o4 o5 o6 o7
    go_enter Try.func5, Try.ntmps5
    go_wp2_with fail
    refine (ph_med PX.out).mono ?_
    rintro e w1 ⟨v1, rfl, ho1, hp1, hk1⟩
    have P1 := Lib.hid (And.intro hp1 ho1)
    clear ho1 hp1 hk1 o1 a0 a1 b0 b1 hX'
    go_wp2_with fail
    refine (of_ok v1 s.med s.n w1 P1.out.2.bytes FT.out.1 FT.out.2.1 FT.out.2.2).mono ?_
    rintro e w2 ⟨rfl, hb2, hd2⟩
    obtain ⟨d2, hd2e⟩ : ∃ k, k = w1.heap.size + 2 := ⟨_, rfl⟩
    rw [← hd2e]
    rw [← hd2e] at hd2
    have P2 := Lib.hid (And.intro (Ph.below P1.out.1 hb2) (And.intro hd2 hb2))
    obtain ⟨y0, y1⟩ := CF.out _ _ _ _ _ _ P2.out.1
    clear hb2 hd2 hd2e
    go_wp2_with fail
    refine (rmed_any P2.out.1.mem.rd).mono ?_
    rintro e w3 ⟨v3, rfl, ho3, hb3⟩
    rw [EM.out] at ho3
    have BM := Lib.hid hb3
    have D3 : Hid (PH w0 w F C p d mb mp x bv w3 cv lv kv s r ∧ Own w2.heap.size w3 v3 s.med ∧ w1.heap.size ≤ w2.heap.size) := Lib.hid ⟨Ph.below P2.out.1 hb3, ho3, P2.out.2.2.size⟩
    clear ho3 hb3
    go_wp2_with fail
    refine (rof_ok v3 s.med s.n w3 D3.out.2.1.bytes FT.out.1 FT.out.2.1 FT.out.2.2).mono ?_
    rintro e w4 ⟨x2, bv2, rfl, hx2, hb4, hr4⟩
    have S1 : Hid (w.heap.size ≤ w1.heap.size) := Lib.hid P1.out.1.kept.size
    have H4 : Hid (PH w0 w F C p d mb mp x bv w4 cv lv kv s r) := Lib.hid (Ph.below D3.out.1 hb4)
    have NW := Lib.hid (Ph.of (D := w1.heap.size) H4.out WW.out S1.out ((P2.out.2.1.below BM.out).below hb4) (Rd.mono hr4 (Nat.le_trans D3.out.2.2 BM.out.size)))
    obtain ⟨q0, q1⟩ := CF.out _ _ _ _ _ _ H4.out
    obtain ⟨-, fz0, fz1, q2⟩ := NW.out
    clear hb4 hr4 hx2 y0 y1
    go_wp2_with fail
    go_ret
    exact ⟨rfl, Ph.fin NW.out.1 (of_same s.n s.med FT.out.1 FT.out.2.1) (by show 0 ≤ _; omega) (by show 0 + 0 ≤ _; omega)⟩
  by_cases hk8 : kind = 8
  · as_aux_lemma =>
    have hk := hk8
    clear hk8
    subst hk
    obtain ⟨fs, hfs⟩ : ∃ l, l = o.fs := ⟨_, rfl⟩
    have HF : Hid (Fts w0 o.fv fs ∧ fs.length * 16 ≤ 140737488355328) := Lib.hid ⟨by rw [hfs]; exact HO.out.2.1, by rw [hfs]; exact HO.out.2.2.2⟩
    obtain ⟨af, cf, ef, hf1, hf2, _, _⟩ := HF.out.1
    rw [ef] at o7 OP HF
    obtain ⟨m, hm⟩ : ∃ m, m = fs.length := ⟨_, rfl⟩
    rw [← hm] at o7 OP hf1
    have MM := Lib.hid hm
    have EQ := Lib.hid (crash_same RR.out fs)
    obtain ⟨c, hc⟩ : ∃ c, c = ((cnts (fateAt fs) 0 s.cache : Nat) : Int) := ⟨_, rfl⟩
    have C1 : Hid (∀ W B' v, PH w0 w F C p d mb mp x bv W cv lv kv s r → W.ownsRow B' 49 2 v fs.length (cellsF fs) → Calls Try.prog 17 #[.pointer (some ⟨d, 0, none⟩), v] W fun e w' => e = .returned (.int .i64 c) ∧ PH w0 w F C p d mb mp x bv w' (.slice none 0 0) lv kv (crD s fs) r ∧ w'.ownsRow B' 49 2 v fs.length (cellsF fs)) := Lib.hid (fun W B' v h ho => by
      rw [hc]
      refine (ph_crash h (by have := NN.out; omega) ho).mono ?_
      rintro e w' ⟨rfl, hp, hk⟩
      exact ⟨rfl, hp, hk _ _ _ _ _ _ (by decide) (by decide) (by decide) (by decide) (by decide) ho⟩)
    have C2 : Hid (∀ W B' v, PH w0 w F C p d mb mp x bv W (.slice none 0 0) lv kv (crD s fs) r → W.ownsRow B' 49 2 v fs.length (cellsF fs) → Calls Try.prog 18 #[.pointer (some ⟨x, 0, none⟩), .slice af m cf] W fun e w' => e = .returned (.int .i64 c) ∧ (∃ lv' kv', PH w0 w F C p d mb mp x bv w' (.slice none 0 0) lv' kv' (crD s fs) (crR r fs)) ∧ w'.ownsRow B' 49 2 v fs.length (cellsF fs)) := Lib.hid (fun W B' v h ho => by
      rw [hc, ← EQ.out.1, hm]
      refine (ph_rcrash h (by have := NN.out; omega) (fun y hy => (RR.out.c0 y hy).2.2) HF.out.1).mono ?_
      rintro e w' ⟨rfl, hp, hk⟩
      exact ⟨rfl, hp, hk _ _ _ _ _ _ (by decide) (by decide) (by decide) (by decide) (by decide) ho⟩)
    have cn : (c != c) = false := bne_self_eq_false _
    have mn : ((m : Int) != (m : Int)) = false := bne_self_eq_false _
    have FX : Hid (Fts X (.slice af m cf) fs) := Lib.hid (by rw [hm]; exact HF.out.1.below BX.out.2)
    have FW : Hid (∀ W, Below w0.heap.size w0 W → Fts W (.slice af m cf) fs) := Lib.hid (fun W h => by rw [hm]; exact HF.out.1.below h)
    unfold maxLen at hf2
    clear hc hm hfs ef o0 o2 o3 o4 o5 o6
    go_enter Try.func5, Try.ntmps5
    go_wp2_with (at_builtin; refine copy_fts rfl _ _ rfl rfl FX.out rfl HF.out.2 ?_)
    intro v1 w1 O1
    have P1 : Hid (PH w0 w F C p d mb mp x bv w1 cv lv kv s r ∧ w1.ownsRow X.heap.size 49 2 v1 fs.length (cellsF fs)) := Lib.hid ⟨Ph.below PX.out O1.out.2, O1.out.1⟩
    obtain ⟨a1', n1, c1', hv1⟩ : ∃ a n c, v1 = .slice a n c := by obtain ⟨a, c, e, _⟩ := fts_own O1.out.1; exact ⟨a, _, c, e⟩
    obtain ⟨al, cl, el, hl1, hl2, _, _⟩ := fts_own O1.out.1
    rw [← MM.out] at el hl1
    unfold maxLen at hl2
    clear hv1 a1' n1 c1'
    subst el
    obtain ⟨x0, x1⟩ := CF.out _ _ _ _ _ _ P1.out.1
    clear O1 o1 o7 a0 a1 b0 b1 hX' FX
    go_wp2_with fail
    refine (C1.out _ _ _ P1.out.1 P1.out.2).mono ?_
    rintro e w2 ⟨rfl, hp2, ho2⟩
    have P2 := Lib.hid (And.intro hp2 ho2)
    have PE : Hid (PH w0 w F C p d mb mp x bv w2.drew (.slice none 0 0) lv kv (crD s fs) r) := Lib.hid (Ph.below hp2 (Below.refl w2.heap.size w2).drew)
    obtain ⟨y0, y1⟩ := CF.out _ _ _ _ _ _ hp2
    obtain ⟨yd0, yd1⟩ := CD.out _ _ _ _ _ _ hp2
    obtain ⟨-, -, y2, y3, -, -, y6, y7⟩ := OP.out _ _ _ _ _ _ _ _ _ _ _ hp2
    obtain ⟨-, -, yd2, yd3, -, -, yd6, yd7⟩ := OP.out _ _ _ _ _ _ _ _ _ _ _ PE.out
    clear hp2 ho2 x0 x1
    go_wp2_with fail
    go_region_held3 (fun W : World => W.cell? ⟨p, 0, none⟩ = some (.pointer (some ⟨d, 0, none⟩)) ∧ W.cell? ⟨p, 1, none⟩ = some (.pointer (some ⟨x, 0, none⟩)) ∧ W.cell? ⟨g, 7, none⟩ = some (.slice af m cf)) (first | exact ⟨by assumption, by assumption, by assumption⟩ | go_keep) (first
      | (go_at_call 18
         refine (C2.out _ _ _ (by first | exact P2.out.1 | exact PE.out) (by first | exact P2.out.2 | exact owns_below P2.out.2 (Below.refl _ _).drew)).mono ?_
         rintro e w3 ⟨rfl, ⟨lv3, kv3, hp3⟩, ho3⟩
         have P3 := Lib.hid (And.intro hp3 ho3)
         obtain ⟨t0, t1⟩ := CF.out _ _ _ _ _ _ hp3
         obtain ⟨-, -, t2, t3, -, -, t6, t7⟩ := OP.out _ _ _ _ _ _ _ _ _ _ _ hp3
         clear hp3 ho3))
    all_goals
      clear y0 y1 yd0 yd1 y2 y3 y6 y7 yd2 yd3 yd6 yd7
      go_wp2_with fail
      go_loopg [10] m (fun gg si wr => ∃ i : Nat, i ≤ m ∧ gg = m - i ∧ si = .int .i64 i ∧ Hid (PH w0 w F C p d mb mp x bv wr (.slice none 0 0) lv3 kv3 (crD s fs) (crR r fs) ∧ wr.ownsRow X.heap.size 49 2 (.slice al m cl) fs.length (cellsF fs)))
      case atStart => exact ⟨0, by omega, rfl, rfl, Lib.hid P3.out⟩
      case round =>
        clear t0 t1 t2 t3 t6 t7 P3
        obtain ⟨i, hi, hgk, rfl, U⟩ := hrel
        have G := Lib.hid hgk
        clear hgk
        by_cases hlt : i < m
        · have hlt' : (i : Int) < (m : Int) := by omega
          obtain ⟨-, -, t2, t3, -, -, t6, t7⟩ := OP.out _ _ _ _ _ _ _ _ _ _ _ U.out.1
          obtain ⟨al', cl', el, _, _, _, hc1⟩ := fts_own U.out.2
          simp only [Value.slice.injEq] at el
          obtain ⟨rfl, -, rfl⟩ := el
          obtain ⟨g1, f1, rfl, e0, e1⟩ := hc1 i (by rw [← MM.out]; exact hlt)
          obtain ⟨af', cf', ef, _, _, _, hc2⟩ := FW.out wr U.out.1.bel
          simp only [Value.slice.injEq] at ef
          obtain ⟨rfl, -, rfl⟩ := ef
          obtain ⟨g2, f2, rfl, e2, e3⟩ := hc2 i (by rw [← MM.out]; exact hlt)
          obtain ⟨k1, hk1⟩ : ∃ k, k = (fs.getD i (0, 0)).1 := ⟨_, rfl⟩
          obtain ⟨k2, hk2⟩ : ∃ k, k = (fs.getD i (0, 0)).2 := ⟨_, rfl⟩
          rw [← hk1] at e0 e2
          rw [← hk2] at e1 e3
          have ka : (k1 == k1) = true := beq_self_eq_true _
          have kb : (k2 == k2) = true := beq_self_eq_true _
          clear hc1 hc2 hk1 hk2 t2 t3 t6
          go_wp2_with fail
          go_quiet (fail)
          go_wp2_with fail
          go_roundg (m - (i + 1))
          case measure => have := G.out; omega
          case rel => exact ⟨i + 1, by omega, rfl, by go_num, Lib.hid ⟨Ph.below U.out.1 (below_drawn wr _), owns_below U.out.2 (below_drawn wr _)⟩⟩
        · go_wp2_with fail
          go_ret
          exact ⟨rfl, Ph.fin U.out.1 EQ.out.2 (by rw [crash_keeps]; have := NN.out; omega) (by have := rcrash_keeps r fs; have := NN.out; omega)⟩
  have g3 : (kind == 3) = false := by rw [beq_eq_false_iff_ne]; exact hk3
  have g4 : (kind == 4) = false := by rw [beq_eq_false_iff_ne]; exact hk4
  have g6 : (kind == 6) = false := by rw [beq_eq_false_iff_ne]; exact hk6
  have g8 : (kind == 8) = false := by rw [beq_eq_false_iff_ne]; exact hk8
  have g9 : (kind == 9) = false := by rw [beq_eq_false_iff_ne]; exact hk9
  have g12 : (kind == 12) = false := by rw [beq_eq_false_iff_ne]; exact hk12
  have AS : Hid (Calls Try.prog 25 #[.pointer (some ⟨p, 0, none⟩), .agg #[.bool o.two, .int .i64 kind, .int .i64 blk, .int .i64 num, .int .i64 o.len, .int .u8 (c8 o.fill), o.bv, o.fv]] X (SdQ w0 X p F n)) := Lib.hid (by
    have e := asks_any o w0 X p F n SX.out (by have := NN.out; omega)
    unfold OpD.cells at e
    rw [← KB.out.1, ← KB.out.2.1, ← KB.out.2.2] at e
    exact e)
  clear hk3 hk4 hk6 hk8 hk9 hk12
  go_enter Try.func5, Try.ntmps5
  go_wp2_with fail
  refine AS.out.mono ?_
  rintro e w1 ⟨rfl, F', hs, hk, hf⟩
  have FIN : Hid (SdP w0 w p F n w1) := Lib.hid ⟨F', hs, (Below.kept BX.out.1 F).trans hk (fun _ _ e => e), fun k e => (hf k e).imp id (fun h => Nat.le_trans BX.out.1.size h)⟩
  clear hs hk hf
  go_wp2_with fail
  go_ret
  exact ⟨rfl, FIN.out⟩
end Rf
end Go.Proofs.Ytojemioophlplaa
