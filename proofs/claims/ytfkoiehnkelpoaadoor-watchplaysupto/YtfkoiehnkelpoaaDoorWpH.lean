/-
  The law's played, with a Push.
-/
import Derived.Test.YtfkoiehnkelpoaaDoorWpG
namespace Go.Proofs.YtfkoiehnkelpoaaDoor
open Go.RowKit
namespace Wt
theorem kept_five {F : Nat → Prop} (w : World) (p0 p1 p2 p3 p4 : Addr) (u0 u1 u2 u3 u4 : Value) (h0 : F p0.block) (h1 : F p1.block) (h2 : F p2.block) (h3 : F p3.block) (h4 : F p4.block) : Kept F w (((((w.setCell p0 u0).setCell p1 u1).setCell p2 u2).setCell p3 u3).setCell p4 u4) :=
  ((((kept_set _ _ _ h0).trans (kept_set _ _ _ h1) (fun _ _ q => q)).trans (kept_set _ _ _ h2) (fun _ _ q => q)).trans (kept_set _ _ _ h3) (fun _ _ q => q)).trans (kept_set _ _ _ h4) (fun _ _ q => q)
set_option maxHeartbeats 32000000 in
set_option maxRecDepth 100000 in
theorem played_push (mk : Ev) (a : Option Addr) (n c : Nat) (kn km : Int) (kp : ByteArray) (l : List Ev) (w0 w : World) (g : Nat) (v : Value) (k : Nat) (u : Value) (s : St) (hG : Gl mk w0) (hL : Row kE w0 (.slice a n c) l) (hl : l.length ≤ 1048576) (hz : ∀ e ∈ l, e.p.size ≤ 1048576) (H : Bt w0 w g v k u s) :
    Calls Tryd.prog 20 #[.pointer (some ⟨g, 0, none⟩), .pointer (some ⟨k, 0, none⟩), .agg #[.int .i64 1, .slice a n c, .int .i64 kn, .string kp, .int .i64 km]] w fun e w' => e = .returned (.bool true) ∧ Pl w0 w g v k u w' := by
  have HH := Lib.hid H
  have GG := Lib.hid hG
  obtain ⟨lo, hi, es⟩ := s
  obtain ⟨b0, b1, b2⟩ := H.ok.b
  simp only at b0 b1 b2
  obtain ⟨D, hD⟩ : ∃ D, D = l.map (dtE (hi + 1)) := ⟨_, rfl⟩
  have DZ : Hid (D.length ≤ 1048576 ∧ ∀ e ∈ D, e.p.size ≤ 1048576) := Lib.hid ⟨by rw [hD, List.length_map]; exact hl, fun e he => by
    rw [hD] at he
    obtain ⟨y, hy, rfl⟩ := List.mem_map.1 he
    exact hz y hy⟩
  obtain ⟨b, hb⟩ : ∃ b, b = w.heap.size := ⟨_, rfl⟩
  obtain ⟨X, hX⟩ : ∃ X, X = w.alloc (.cells #[.int .i64 1, .slice a n c, .int .i64 kn, .string kp, .int .i64 km] 51) := ⟨_, rfl⟩
  have BX : Hid (Below w.heap.size w X) := Lib.hid (by rw [hX]; exact (Below.refl _ w).alloc (Nat.le_refl _) _)
  have CX : Hid (∀ W, Below X.heap.size X W → ∀ i y, #[Value.int .i64 1, .slice a n c, .int .i64 kn, .string kp, .int .i64 km][i]? = some y → W.cell? ⟨b, i, none⟩ = some y) := Lib.hid fun W hbb i y h => by
    have h1 : X.cell? ⟨b, i, none⟩ = some y := by rw [hX, hb, World.cell?_alloc_new]; exact h
    rw [hbb.cell (block_lt_of_cell h1)]; exact h1
  have c0 : X.cell? ⟨b, 0, none⟩ = some (.int .i64 1) := CX.out X (Below.refl _ _) 0 _ rfl
  have BD : Hid (Below X.heap.size X X.drew) := Lib.hid ((Below.refl _ X).drew)
  have d1 : X.drew.cell? ⟨b, 1, none⟩ = some (.slice a n c) := CX.out _ BD.out 1 _ rfl
  have AS : Hid (∀ W : World, Below X.heap.size X W → Bt w0 W g v k u ⟨lo, hi, es⟩ ∧ Below w.heap.size w W ∧ Gl mk W) := Lib.hid fun W hbb => ⟨(HH.out.below BX.out).below hbb, BX.out.trans (hbb.mono BX.out.size), GG.out.of ((HH.out.below BX.out).below hbb)⟩
  have DA : Hid (Calls Tryd.prog 35 #[.slice a n c, .int .i64 (hi + 1)] X.drew fun e w' => ∃ v', e = .returned v' ∧ OwnR kE X.drew.heap.size w' v' D ∧ Below X.drew.heap.size X.drew w') := Lib.hid (by rw [hD]; exact dated_any l (hi + 1) _ X.drew (hL.below (AS.out _ BD.out).1.be) hl)
  have DB : Hid (Calls Tryd.prog 35 #[.slice a n c, .int .i64 (IntKind.i64.wrap (hi + 1))] X.drew fun e w' => ∃ v', e = .returned v' ∧ OwnR kE X.drew.heap.size w' v' D ∧ Below X.drew.heap.size X.drew w') := Lib.hid (by rw [show IntKind.i64.wrap (hi + 1) = hi + 1 by rw [IntKind.wrap_i64]; omega]; exact DA.out)
  have hX' := hX.symm
  have hb' := hb.symm
  have SX : Hid (w.heap.size ≤ X.heap.size) := Lib.hid BX.out.size
  clear hX hb H BX hG hL hl hz hD
  go_enter Tryd.func20, Tryd.ntmps20
  go_wp2_with fail
  go_region_held3 (fun W : World => W.cell? ⟨b, 1, none⟩ = some (.slice a n c)) (first | assumption | go_keep) (first
    | (go_at_call 36
       refine (Bt.asks w0 _ g v k u _ (AS.out _ BD.out).1).2.2.2.mono ?_
       rintro e x1 ⟨rfl, rfl⟩)
    | (go_at_call 35
       first | (with_reducible refine DB.out.mono ?_) | (with_reducible refine DA.out.mono ?_)
       rintro e x2 ⟨v1, rfl, ho, hbb⟩
       obtain ⟨n1, a1, c1, rfl⟩ : ∃ n1 a1 c1, v1 = .slice a1 n1 c1 := by (obtain ⟨a', c', e'⟩ := ho.slice; exact ⟨_, a', c', e'⟩)
       have B2 : Hid (Below X.heap.size X x2 ∧ OwnR kE X.heap.size x2 (.slice a1 n1 c1) D) := Lib.hid ⟨BD.out.trans (hbb.mono BD.out.size), ho⟩
       have e1 : x2.cell? ⟨b, 1, none⟩ = some (.slice a n c) := CX.out _ B2.out.1 1 _ rfl
       clear ho hbb))
  clear d1 e1 DA DB c0 CX BD
  obtain ⟨nn, hnn⟩ : ∃ nn, nn = D.length := ⟨_, rfl⟩
  have EN : n1 = nn := by obtain ⟨a', c', e'⟩ := B2.out.2.slice; simp only [Value.slice.injEq] at e'; rw [hnn]; exact e'.2.1
  subst EN
  have HN := Lib.hid hnn
  have hnb : n1 ≤ 1048576 := by have := DZ.out.1; omega
  clear hnn
  have BH := Lib.hid (behind_any mk D _ x2 (AS.out x2 B2.out.1).2.2 (B2.out.2.row okE) (by have := DZ.out.1; omega))
  go_wp2_with fail
  refine BH.out.mono ?_
  rintro e w2 ⟨a2, n2, c2, rfl, ho2, hb2⟩
  obtain ⟨gx, rfl, hn2, hc2, hcut⟩ := cut_rowP okE ho2
  rw [← HN.out] at hn2 hc2 hcut
  subst hn2
  have W2 : Hid (Below X.heap.size X w2 ∧ OwnR kE X.heap.size w2 (.slice a1 n1 c1) D ∧ OwnR kE x2.heap.size w2 (.slice (some ⟨gx, 0, none⟩) (n1 + 1) c2) (D ++ [mk]) ∧ OwnR kE x2.heap.size w2 (.slice (some ⟨gx, 0, none⟩) n1 c2) D) := Lib.hid ⟨B2.out.1.trans (hb2.mono B2.out.1.size), B2.out.2.below hb2, ho2, hcut⟩
  have GX : Hid (X.heap.size ≤ gx ∧ gx < w2.heap.size) := Lib.hid (by have := ho2.lt gx rfl; have := B2.out.1.size; omega)
  have NB : Hid (∀ x, BF g v k u x → x < w.heap.size) := Lib.hid HH.out.lt
  clear ho2 hb2 hcut BH B2
  have hs1 : (0 : Int) ≤ (n1 : Int) := by omega
  have hs2 : (n1 : Int) ≤ (c2 : Int) := by omega
  have PU := Lib.hid (push_any D _ w2 g v ⟨lo, hi, es⟩ (AS.out w2 W2.out.1).2.2.hm (AS.out w2 W2.out.1).1.h (AS.out w2 W2.out.1).1.ok (W2.out.2.2.2.row okE) (fun x hx q => by
    have h1 : x = gx := by have : some x = some gx := hx.symm; injection this
    have := NB.out x (.inl q)
    have := GX.out
    have := SX.out
    omega))
  go_wp2_with fail
  refine PU.out.mono ?_
  rintro e w3 ⟨rfl, ps⟩
  have P3 := Lib.hid ps
  have L3 : Hid (Rb w3 k u ⟨lo, hi, es⟩ ∧ OwnR kE X.heap.size w3 (.slice a1 n1 c1) D ∧ OwnR kE x2.heap.size w3 (.slice (some ⟨gx, 0, none⟩) (n1 + 1) c2) (D ++ [mk])) := Lib.hid ⟨(AS.out w2 W2.out.1).1.r.kept ps.kept (fun x q c => (AS.out w2 W2.out.1).1.ap x c q), W2.out.2.1.kept ps.kept (fun x hx q => by
      have := (W2.out.2.1.lt x hx).1
      have := NB.out x (.inl q)
      have := SX.out
      omega), W2.out.2.2.1.kept ps.kept (fun x hx q => by
      have h1 : x = gx := by have : some x = some gx := hx.symm; injection this
      have := NB.out x (.inl q)
      have := GX.out
      have := SX.out
      omega)⟩
  clear ps PU
  have RU := Lib.hid (rpush_any D _ w3 k u ⟨lo, hi, es⟩ L3.out.1 (AS.out w2 W2.out.1).1.ok (L3.out.2.1.row okE) DZ.out.2)
  obtain ⟨E, hE⟩ : ∃ E, E = pushE ⟨lo, hi, es⟩ D := ⟨_, rfl⟩
  rw [← hE] at RU ⊢
  clear hE
  go_wp2_with fail
  refine RU.out.mono ?_
  rintro e w4 ⟨rfl, rs⟩
  obtain ⟨v', u', s', hbd⟩ := (AS.out w2 W2.out.1).1.push P3.out rs
  have Q4 : Hid (Bd w0 w g v k u v' u' s' w4) := Lib.hid ((HH.out.same (AS.out w2 W2.out.1).2.1).trans hbd)
  have NX : Hid (∀ x, BF g v' k u' x → x ≠ gx) := Lib.hid fun x hx e => by
    have := GX.out
    have := SX.out
    rcases hbd.2.2 x hx with q | q
    · have := NB.out x q; omega
    · omega
  have L4 : Hid (OwnR kE X.heap.size w4 (.slice a1 n1 c1) D ∧ OwnR kE 0 w4 (.slice (some ⟨gx, 0, none⟩) (n1 + 1) c2) (D ++ [mk])) := Lib.hid ⟨L3.out.2.1.kept rs.kept (fun x hx q => by
      have := (W2.out.2.1.lt x hx).1
      have := NB.out x (.inr (.inl q))
      have := SX.out
      omega), (L3.out.2.2.kept rs.kept (fun x hx q => by
      have h1 : x = gx := by have : some x = some gx := hx.symm; injection this
      have := NB.out x (.inr (.inl q))
      have := GX.out
      have := SX.out
      omega)).mono (Nat.zero_le _)⟩
  clear rs hbd RU P3 L3 W2
  have BH := Lib.hid (behind_any mk D _ w4 (GG.out.of Q4.out.1) (L4.out.1.row okE) (by have := DZ.out.1; omega))
  go_wp2_with fail
  refine BH.out.mono ?_
  rintro e w5 ⟨a5, n5, c5, rfl, ho5, hb5⟩
  have L5 : Hid (Bd w0 w g v k u v' u' s' w5 ∧ OwnR kE 0 w5 (.slice (some ⟨gx, 0, none⟩) (n1 + 1) c2) (D ++ [mk]) ∧ Row kE w5 (.slice a5 n5 c5) (D ++ [mk])) := Lib.hid ⟨Q4.out.below hb5, L4.out.2.below hb5, ho5.row okE⟩
  clear ho5 hb5 BH L4 Q4
  have SY := Lib.hid (same_yes _ _ _ w5 (L5.out.2.1.row okE) L5.out.2.2)
  go_wp2_with fail
  refine SY.out.mono ?_
  rintro e w6 ⟨rfl, hb6⟩
  have L6 : Hid (Bd w0 w g v k u v' u' s' w6 ∧ OwnR kE 0 w6 (.slice (some ⟨gx, 0, none⟩) (n1 + 1) c2) (D ++ [mk])) := Lib.hid ⟨L5.out.1.below hb6, L5.out.2.1.below hb6⟩
  clear hb6 SY L5
  obtain ⟨I, hI⟩ : ∃ I, I = D ++ [mk] := ⟨_, rfl⟩
  rw [← hI] at L6
  have LN : Hid (n1 + 1 = I.length) := Lib.hid (by rw [hI, List.length_append, HN.out]; rfl)
  clear hI
  obtain ⟨mv, mk0, mg, mp, mn⟩ := mk
  go_wp2_with fail
  go_loopg [11] (n1 + 1) (fun gk si wr => ∃ (i : Nat), i ≤ n1 + 1 ∧ gk = n1 + 1 - i ∧ si = .int .i64 i ∧ Hid (Bd w0 w g v k u v' u' s' wr ∧ OwnR kE 0 wr (.slice (some ⟨gx, 0, none⟩) (n1 + 1) c2) (fl ⟨mv, mk0, mg, mp, mn⟩ I i)))
  case atStart => exact ⟨0, Nat.zero_le _, rfl, rfl, Lib.hid ⟨L6.out.1, L6.out.2⟩⟩
  case round =>
    obtain ⟨i, hi1, hgk, rfl, R⟩ := hrel
    have GK := Lib.hid hgk
    clear hgk
    by_cases hlt : i < n1 + 1
    · have hlt' : (i : Int) < (n1 : Int) + 1 := by omega
      have hlt2 : (i : Int) < ((n1 + 1 : Nat) : Int) := by omega
      have hil : i < (fl ⟨mv, mk0, mg, mp, mn⟩ I i).length := by rw [fl_len _ _ _ (by rw [← LN.out]; exact hi1), ← LN.out]; exact hlt
      obtain ⟨ga, off, eg, t0, t1, t2, t3, t4⟩ := row_at (R.out.2.row okE) i hil
      simp only [Option.some.injEq, Addr.mk.injEq, and_true] at eg
      obtain ⟨rfl, rfl⟩ := eg
      simp only [Nat.zero_add] at t0 t1 t2 t3 t4
      have GL := GG.out.of R.out.1.1
      have k0 : wr.cell? ⟨0, 0, none⟩ = some (.int .i64 mv) := GL.gm 0 _ rfl
      have k1 : wr.cell? ⟨0, 1, none⟩ = some (.int .i64 mk0) := GL.gm 1 _ rfl
      have k2 : wr.cell? ⟨0, 2, none⟩ = some (.bool mg) := GL.gm 2 _ rfl
      have k3 : wr.cell? ⟨0, 3, none⟩ = some (.string mp) := GL.gm 3 _ rfl
      have k4 : wr.cell? ⟨0, 4, none⟩ = some (.string mn) := GL.gm 4 _ rfl
      obtain ⟨cur, -, -, hg, -⟩ := R.out.2.parts
      have f0 := frozen_row hg (i * 5)
      have f1 := frozen_row hg (i * 5 + 1)
      have f2 := frozen_row hg (i * 5 + 2)
      have f3 := frozen_row hg (i * 5 + 3)
      have f4 := frozen_row hg (i * 5 + 4)
      clear hg GL
      have F2 := Lib.hid (fl_set (⟨mv, mk0, mg, mp, mn⟩ : Ev) I i (by rw [← LN.out]; exact hlt))
      go_wp2_with fail
      go_roundg (n1 + 1 - (i + 1))
      case measure => have := GK.out; omega
      case rel =>
        refine ⟨i + 1, by omega, rfl, by go_num, Lib.hid ⟨?_, ?_⟩⟩
        · exact R.out.1.kept (kept_five (F := fun y => y = gx) _ _ _ _ _ _ _ _ _ _ _ rfl rfl rfl rfl rfl) NX.out (fun x hx => by have := GX.out; have := SX.out; omega) HH.out.be.size
        · have h := own_setE R.out.2 i hil ⟨mv, mk0, mg, mp, mn⟩
          rw [F2.out] at h
          exact h
    · have hin : ¬ (i : Int) < (n1 : Int) + 1 := by omega
      have AT := Lib.hid (Bt.asks w0 wr g v' k u' _ R.out.1.1)
      have FN : Hid (Pl w0 w g v k u wr) := Lib.hid ⟨_, _, _, R.out.1⟩
      go_wp2_with fail
      refine AT.out.1.mono ?_
      rintro e w1 ⟨rfl, rfl⟩
      go_wp2_with fail
      refine AT.out.2.2.1.mono ?_
      rintro e w2 ⟨rfl, rfl⟩
      go_wp2_with fail
      refine AT.out.2.1.mono ?_
      rintro e w3 ⟨rfl, rfl⟩
      go_wp2_with fail
      refine AT.out.2.2.2.mono ?_
      rintro e w4 ⟨rfl, rfl⟩
      go_wp2_with fail
      go_ret
      exact ⟨rfl, FN.out⟩
/-- One step. -/
theorem played_any (mk : Ev) (o : Op) (l : List Ev) (w0 w : World) (g : Nat) (v : Value) (k : Nat) (u : Value) (s : St) (hG : Gl mk w0) (hL : Row kE w0 o.l.v l) (hl : l.length ≤ 1048576) (hz : ∀ e ∈ l, e.p.size ≤ 1048576) (hp : o.p.size ≤ 1048576) (H : Bt w0 w g v k u s) :
    Calls Tryd.prog 20 #[.pointer (some ⟨g, 0, none⟩), .pointer (some ⟨k, 0, none⟩), o.val] w fun e w' => e = .returned (.bool true) ∧ Pl w0 w g v k u w' := by
  obtain ⟨ok, ⟨a, n, c⟩, kn, kp, km⟩ := o
  by_cases h1 : ok = 1
  · subst h1
    exact played_push mk a n c kn km kp l w0 w g v k u s hG hL hl hz H
  · by_cases h2 : ok = 2
    · subst h2
      exact played_since mk a n c kn km kp w0 w g v k u s hG hp H
    · exact played_none a n c ok kn km kp w0 w g v k u s H h1 h2
end Wt
end Go.Proofs.YtfkoiehnkelpoaaDoor
