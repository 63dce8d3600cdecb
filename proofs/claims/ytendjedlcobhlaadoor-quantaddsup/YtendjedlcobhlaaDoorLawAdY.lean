/-
  QuantAddsUp: Plus is not refused, Within tells nothing.
-/
import Derived.Test.YtendjedlcobhlaaDoorAdM
namespace Go.Proofs.YtendjedlcobhlaaDoor
open Go.RowKit Go.Lib
open Go.Sort (grow)
set_option maxHeartbeats 16000000 in
set_option maxRecDepth 100000 in
theorem addsUp_z0 (v u y : Value) (l t s X : List Am) (m : Amt) (n n' ns k : Nat) (TW : ByteArray) (MN P1 P2 P3 : List Am) (E1 E2 E3 : Int) (k1 k2 k3 kn : Nat) (hBB : bothB l t = true) (h1 : plE X s = E1 ∧ plL X s = P1 ∧ k1 = P1.length) (h2 : plE t s = E2 ∧ plL t s = P2 ∧ k2 = P2.length) (h3 : plE l P2 = E3 ∧ plL l P2 = P3 ∧ k3 = P3.length) (hMM : mnL t (nam l t) = MN) (hKN : kn = MN.length) (hE : plE l t = 0) (hMN : mnE t (nam l t) = 0) (hWI : wiT l t = ⟨#[]⟩) (hTW : 0 < TW.size) (w : World) (G : Glob w) (hm : Mark w m) (hv : Row kAm w v l) (hu : Row kAm w u t) (hy : Row kAm w y s) (hz : (n + 1) * 24 ≤ 140737488355328) (hz' : (n' + 1) * 24 ≤ 140737488355328) (hz'' : (ns + 1) * 24 ≤ 140737488355328) (hf : ∀ x ∈ l, x.v ≤ 9223372036854775807) (hf' : ∀ x ∈ t, x.v ≤ 9223372036854775807) (hf'' : ∀ x ∈ s, x.v ≤ 9223372036854775807) (hn : n = l.length) (hn' : n' = t.length) (hns : ns = s.length) (hL : plL l t = X) (hk : k = X.length) :
    Calls Tryd.prog 4 #[v, u, y] w fun e w' => e = .returned (.bool true) ∧ Below w.heap.size w w' := by
  have em1 : TW.toList.isEmpty = false := notEmpty hTW
  have em2 : (TW.toList == []) = false := notNil hTW
  have HBB := Lib.hid hBB
  have H1 := Lib.hid h1
  have H2 := Lib.hid h2
  have H3 := Lib.hid h3
  have HMM := Lib.hid hMM
  have HKN := Lib.hid hKN
  have HMN := Lib.hid hMN
  have HWI := Lib.hid hWI
  have CC : Hid (amsC l = 0 ∧ amsC t = 0) := Lib.hid (both_of hBB)
  have H23 : Hid ((P2.length + 1) * 24 ≤ 140737488355328 ∧ ∀ x ∈ P2, x.v ≤ 9223372036854775807) := Lib.hid (by have q := plus_told t s; rw [h2.2.1] at q; exact ⟨by omega, q.2.1⟩)
  clear hBB h1 h2 h3 hMM hKN hMN hWI
  have K := Lib.hid (known_ok w G)
  have V0 := Lib.hid hv
  have U0 := Lib.hid hu
  have S0 := Lib.hid hy
  have M0 := Lib.hid hm
  have ZZ := Lib.hid (And.intro hz (And.intro hz' hz''))
  have FF := Lib.hid (And.intro hf (And.intro hf' hf''))
  have HN := Lib.hid (And.intro hn (And.intro hn' hns))
  have HE := Lib.hid hE
  have HL := Lib.hid hL
  have HK := Lib.hid hk
  have XT := Lib.hid (plus_told l t)
  have ZK : Hid ((k + 1) * 24 ≤ 140737488355328) := Lib.hid (by have q := XT.out.1; rw [hL, ← hk] at q; omega)
  have XF : Hid (∀ x ∈ X, x.v ≤ 9223372036854775807) := Lib.hid (by have q := XT.out.2.1; rw [hL] at q; exact q)
  obtain ⟨va, vc, rfl, hv1, hv2⟩ := row_spare hv hn
  obtain ⟨ua, uc, rfl, hu1, hu2⟩ := row_spare hu hn'
  obtain ⟨sa, sc, rfl, hs1, hs2⟩ := row_spare hy hns
  have n1 : (n : Int) ≤ 5864062014806 := by omega
  have n2 : (n' : Int) ≤ 5864062014806 := by omega
  have n3 : (ns : Int) ≤ 5864062014806 := by omega
  have n4 : (k : Int) ≤ 5864062014806 := by have := ZK.out; omega
  clear G hv hu hy hm hz hz' hz'' hf hf' hf'' hE hL hk hn hn' hns
  go_enter Tryd.func4, Tryd.ntmps4
  go_wp2_with fail
  refine K.out.mono ?_
  rintro e w1 ⟨rfl, hb⟩
  have B1 : Hid (Below w.heap.size w w1) := Lib.hid hb
  have M1 := Lib.hid (M0.out.below hb)
  have V1 := Lib.hid (V0.out.below hb)
  have U1 := Lib.hid (U0.out.below hb)
  have S1 := Lib.hid (S0.out.below hb)
  clear hb M0 V0 U0 S0
  clear K
  go_wp2_with fail
  refine (added_any _ _ l t X 0 k m w1 V1.out U1.out M1.out (by rw [← HN.out.1]; exact ZZ.out.1) (by rw [← HN.out.2.1]; exact ZZ.out.2.1) FF.out.1 FF.out.2.1 HE.out HL.out HK.out).mono ?_
  rintro e w2 ⟨xa, xc, rfl, hx1, hx2, hr, hb⟩
  have X2 := Lib.hid hr
  clear hr
  have B2 : Hid (Below w.heap.size w w2) := Lib.hid (B1.out.trans (hb.mono B1.out.size))
  have M2 := Lib.hid (M1.out.below hb)
  have V2 := Lib.hid (V1.out.below hb)
  have U2 := Lib.hid (U1.out.below hb)
  have S2 := Lib.hid (S1.out.below hb)
  clear hb B1 M1 V1 U1 S1
  go_wp2_with fail
  refine (added_any _ _ t l X 0 k m w2 U2.out V2.out M2.out (by rw [← HN.out.2.1]; exact ZZ.out.2.1) (by rw [← HN.out.1]; exact ZZ.out.1) FF.out.2.1 FF.out.1 (plus_comm.1.trans HE.out) (plus_comm.2.trans HL.out) HK.out).mono ?_
  rintro e w3 ⟨ya, yc, rfl, hy1, hy2, hr, hb⟩
  have Y3 := Lib.hid hr
  clear hr
  have B3 : Hid (Below w.heap.size w w3) := Lib.hid (B2.out.trans (hb.mono B2.out.size))
  have M3 := Lib.hid (M2.out.below hb)
  have V3 := Lib.hid (V2.out.below hb)
  have U3 := Lib.hid (U2.out.below hb)
  have S3 := Lib.hid (S2.out.below hb)
  have X3 := Lib.hid (X2.out.below hb)
  clear hb B2 M2 V2 U2 S2 X2
  go_wp2_with fail
  refine (same_row _ _ X w3 X3.out Y3.out).mono ?_
  rintro e w4 ⟨rfl, hb⟩
  have B4 : Hid (Below w.heap.size w w4) := Lib.hid (B3.out.trans (hb.mono B3.out.size))
  have M4 := Lib.hid (M3.out.below hb)
  have V4 := Lib.hid (V3.out.below hb)
  have U4 := Lib.hid (U3.out.below hb)
  have S4 := Lib.hid (S3.out.below hb)
  have X4 := Lib.hid (X3.out.below hb)
  clear hb B3 M3 V3 U3 S3 X3
  clear Y3
  go_wp2_with fail
  refine (valid_lit _ l 0 w4 V4.out CC.out.1).mono ?_
  rintro e w5 ⟨rfl, hb⟩
  have B5 : Hid (Below w.heap.size w w5) := Lib.hid (B4.out.trans (hb.mono B4.out.size))
  have M5 := Lib.hid (M4.out.below hb)
  have V5 := Lib.hid (V4.out.below hb)
  have U5 := Lib.hid (U4.out.below hb)
  have S5 := Lib.hid (S4.out.below hb)
  have X5 := Lib.hid (X4.out.below hb)
  clear hb B4 M4 V4 U4 S4 X4
  go_wp2_with fail
  refine (valid_lit _ t 0 w5 U5.out CC.out.2).mono ?_
  rintro e w6 ⟨rfl, hb⟩
  have B6 : Hid (Below w.heap.size w w6) := Lib.hid (B5.out.trans (hb.mono B5.out.size))
  have M6 := Lib.hid (M5.out.below hb)
  have V6 := Lib.hid (V5.out.below hb)
  have U6 := Lib.hid (U5.out.below hb)
  have S6 := Lib.hid (S5.out.below hb)
  have X6 := Lib.hid (X5.out.below hb)
  clear hb B5 M5 V5 U5 S5 X5
  obtain ⟨Z, hZ⟩ : ∃ Z, Z = X.map (subV t) := ⟨_, rfl⟩
  have PB : Hid (mnE X t = 0 ∧ mnL X t = Z ∧ (∀ x ∈ X, (subV t x).v = (findA x.n (toA l)).1) ∧ wiT l X = ⟨#[]⟩ ∧ bothB l X = true ∧ k = Z.length) := Lib.hid (by
    obtain ⟨q1, q2⟩ := plus_yes HBB.out
    have q := plus_back HBB.out FF.out.1 (by rw [← q1]; exact HE.out)
    rw [← q2, HL.out, ← hZ] at q
    exact ⟨q.1, q.2.1, q.2.2.1, q.2.2.2.1, q.2.2.2.2, by rw [hZ, List.length_map]; exact HK.out⟩)
  have HZ := Lib.hid hZ
  clear hZ
  go_wp2_with fail
  have BH : Hid (∀ W, Below w6.heap.size w6 W → Calls Tryd.prog 9 #[.slice xa k xc] W fun e w' => ∃ g cap, e = .returned (.slice (some ⟨g, 0, none⟩) (k + 1) cap) ∧ k + 1 ≤ cap ∧ cap ≤ 9223372036854775807 ∧ Row kAm w' (.slice (some ⟨g, 0, none⟩) k cap) X ∧ Below W.heap.size W w') := Lib.hid fun W h => behind_n _ X m W k HK.out (X6.out.below h) (M6.out.below h) ZK.out
  have BU : Hid (∀ W, Below w6.heap.size w6 W → Calls Tryd.prog 9 #[.slice ua n' uc] W fun e w' => ∃ g cap, e = .returned (.slice (some ⟨g, 0, none⟩) (n' + 1) cap) ∧ n' + 1 ≤ cap ∧ cap ≤ 9223372036854775807 ∧ Row kAm w' (.slice (some ⟨g, 0, none⟩) n' cap) t ∧ Below W.heap.size W w') := Lib.hid fun W h => behind_n _ t m W n' HN.out.2.1 (U6.out.below h) (M6.out.below h) ZZ.out.2.1
  have BD : Hid (Below w6.heap.size w6 w6.drew) := Lib.hid ((Below.refl _ w6).drew)
  have FN : Hid (∀ W g cap g' cap', Row kAm W (.slice (some ⟨g, 0, none⟩) k cap) X → Row kAm W (.slice (some ⟨g', 0, none⟩) n' cap') t → Calls Tryd.prog 12 #[.slice (some ⟨g, 0, none⟩) k cap, .slice (some ⟨g', 0, none⟩) n' cap'] W fun e w' => ∃ a c, e = .returned (.tuple #[.slice a k c, .int .i64 0]) ∧ k ≤ c ∧ c ≤ 9223372036854775807 ∧ Row kAm w' (.slice a k c) Z ∧ Below W.heap.size W w') := Lib.hid fun W g cap g' cap' h h' => minus_lit _ _ X t Z 0 k W h (plain_of _ _ _) h' XF.out FF.out.2.1 PB.out.1 PB.out.2.1 PB.out.2.2.2.2.2
  have MK : True := trivial
  go_cut [11, 12] (fun s11 s12 wx => (∃ za zc, s11 = .slice za k zc ∧ s12 = .int .i64 0 ∧ k ≤ zc ∧ zc ≤ 9223372036854775807 ∧ Row kAm wx (.slice za k zc) Z) ∧ Below w6.heap.size w6 wx)
  case first =>
    go_region_with (first | (go_at_call 9; clear MK; refine (BH.out _ BD.out).mono ?_; rintro e x2 ⟨g2, cap2, rfl, hc2, hd2, hr2, hb2⟩; have Q2 : Hid (Row kAm x2 (.slice (some ⟨g2, 0, none⟩) k cap2) X ∧ Below w6.heap.size w6 x2) := Lib.hid ⟨hr2, BD.out.trans hb2⟩; have i2 : (k : Int) ≤ (cap2 : Int) := (by omega); clear hr2 hb2) | (go_at_call 9; refine (BU.out _ Q2.out.2).mono ?_; rintro e x3 ⟨g3, cap3, rfl, hc3, hd3, hr3, hb3⟩; have Q3 : Hid (Row kAm x3 (.slice (some ⟨g2, 0, none⟩) k cap2) X ∧ Row kAm x3 (.slice (some ⟨g3, 0, none⟩) n' cap3) t ∧ Below w6.heap.size w6 x3) := Lib.hid ⟨Q2.out.1.below hb3, hr3, Q2.out.2.trans (hb3.mono Q2.out.2.size)⟩; have i3 : (n' : Int) ≤ (cap3 : Int) := (by omega); clear hr3 hb3) | (go_at_call 12; refine (FN.out _ g2 cap2 g3 cap3 Q3.out.1 Q3.out.2.1).mono ?_; rintro e x4 ⟨za, zc, rfl, hz1, hz2, hrz, hb4⟩; have Q4 : Hid (Below w6.heap.size w6 x4) := Lib.hid (Q3.out.2.2.trans (hb4.mono Q3.out.2.2.size)); clear hb4))
    all_goals
      go_wp2_with fail
      go_meet
      exact ⟨⟨za, zc, rfl, rfl, hz1, hz2, hrz⟩, Q4.out⟩
  case rest =>
    clear MK BH BU FN BD
    obtain ⟨⟨za, zc, rfl, rfl, hz1, hz2, hrz⟩, hb⟩ := hcut
    obtain ⟨w7, hwc⟩ : ∃ W, W = wc := ⟨_, rfl⟩
    rw [← hwc] at hb hrz ⊢
    have Z7 := Lib.hid hrz
    clear hwc hrz
    have B7 : Hid (Below w.heap.size w w7) := Lib.hid (B6.out.trans (hb.mono B6.out.size))
    have M7 := Lib.hid (M6.out.below hb)
    have V7 := Lib.hid (V6.out.below hb)
    have U7 := Lib.hid (U6.out.below hb)
    have S7 := Lib.hid (S6.out.below hb)
    have X7 := Lib.hid (X6.out.below hb)
    clear hb B6 M6 V6 U6 S6 X6
    go_wp2_with fail
    go_loopg [13] k (fun g si wr => ∃ (i : Nat), i ≤ k ∧ g = k - i ∧ si = .int .i64 i ∧ Below w7.heap.size w7 wr)
    case atStart => exact ⟨0, Nat.zero_le _, rfl, rfl, Below.refl _ _⟩
    case round =>
      obtain ⟨i, hi, hg, rfl, hb⟩ := hrel
      have R : Hid (gk = k - i ∧ Below w7.heap.size w7 wr) := Lib.hid ⟨hg, hb⟩
      clear hg hb
      by_cases hlt : i < k
      · have hlt' : (i : Int) < (k : Int) := by omega
        have hiX : i < X.length := by rw [← HK.out]; exact hlt
        have hiZ : i < Z.length := by rw [← PB.out.2.2.2.2.2]; exact hlt
        obtain ⟨bx, ox, rfl, px⟩ := (X7.out.below R.out.2).at i hiX
        obtain ⟨bz, oz, rfl, pz⟩ := (Z7.out.below R.out.2).at i hiZ
        have IN := Lib.hid (getD_in (d := kAm.z) hiX)
        have ZX : Hid (Z.getD i kAm.z = subV t (X.getD i kAm.z)) := Lib.hid (by rw [HZ.out, List.getD_eq_getElem?_getD, List.getElem?_map, List.getElem?_eq_getElem hiX, List.getD_eq_getElem?_getD, List.getElem?_eq_getElem hiX]; rfl)
        obtain ⟨⟨xn, xv⟩, hx⟩ : ∃ x, x = X.getD i kAm.z := ⟨_, rfl⟩
        rw [← hx] at px IN ZX
        obtain ⟨zv, hzv⟩ : ∃ zv, zv = (findA xn (toA l)).1 := ⟨_, rfl⟩
        have ZE : Hid (Z.getD i kAm.z = ⟨xn, zv⟩) := Lib.hid (by rw [ZX.out]; have q := PB.out.2.2.1 _ IN.out; rw [hzv, ← q]; rfl)
        rw [ZE.out] at pz
        have c0 : wr.cell? ⟨bx, ox + i * 2, none⟩ = some (.string xn) := px 0 _ rfl
        have e0 : wr.cell? ⟨bz, oz + i * 2, none⟩ = some (.string xn) := pz 0 _ rfl
        have e1 : wr.cell? ⟨bz, oz + i * 2 + 1, none⟩ = some (.int .i64 zv) := pz 1 _ rfl
        obtain ⟨yb, hyb⟩ : ∃ yb, yb = (findA xn (toA l)).2 := ⟨_, rfl⟩
        have OF : Hid (Calls Tryd.prog 17 #[.slice va n vc, .string xn] wr fun e w' => e = .returned (.tuple #[.int .i64 zv, .bool yb]) ∧ Below wr.heap.size wr w') := Lib.hid (by
          have q := of_any (.slice va n vc) (toA l) xn wr (amts_row (V7.out.below R.out.2))
          rw [← hzv, ← hyb] at q; exact q)
        clear hx px pz hiX hiZ hzv hyb
        go_wp2_with fail
        refine OF.out.mono ?_
        rintro e x3 ⟨rfl, hb⟩
        have B9 : Hid (Below w7.heap.size w7 x3) := Lib.hid (R.out.2.trans (hb.mono R.out.2.size))
        have dc0 := (hb.cell (block_lt_of_cell c0)).trans c0
        have de0 := (hb.cell (block_lt_of_cell e0)).trans e0
        have de1 := (hb.cell (block_lt_of_cell e1)).trans e1
        have r0 : ∀ (dq : Nat) (os : Array Obj), (grow (redrawn x3 dq) os).cell? ⟨bx, ox + i * 2, none⟩ = some (.string xn) := fun dq os => cell_regrown dc0 dq os
        have r1 : ∀ (dq : Nat) (os : Array Obj), (grow (redrawn x3 dq) os).cell? ⟨bz, oz + i * 2, none⟩ = some (.string xn) := fun dq os => cell_regrown de0 dq os
        have r2 : ∀ (dq : Nat) (os : Array Obj), (grow (redrawn x3 dq) os).cell? ⟨bz, oz + i * 2 + 1, none⟩ = some (.int .i64 zv) := fun dq os => cell_regrown de1 dq os
        have gn : (xn.toList == xn.toList) = true := by simp
        have gv : (zv == zv) = true := by simp
        clear hb OF c0 e0 e1 dc0 de0 de1
        go_wp2_with fail
        refine wp_region_quiet_below (by kernel_rfl) (by kernel_rfl) ?_
        repeat (go_big_quiet_step (fail))
        refine wpQuiet_nil ?_
        rintro _ ⟨⟨dq, osq⟩, hw''⟩
        subst hw''
        have QB := below_regrown x3 dq osq
        obtain ⟨W5, hW5⟩ : ∃ W, W = grow (redrawn x3 dq) osq := ⟨_, rfl⟩
        rw [← hW5] at QB ⊢
        have S5 : Hid (Below w7.heap.size w7 W5) := Lib.hid (B9.out.trans (QB.mono B9.out.size))
        clear hW5 QB r0 r1 r2
        go_wp2_with fail
        go_roundg (k - (i + 1))
        case measure => have := R.out.1; omega
        case rel => exact ⟨i + 1, by omega, rfl, by go_num, S5.out⟩
      · have hin : ¬ (i : Int) < (k : Int) := by omega
        have hb := R.out.2
        obtain ⟨w8, hw'⟩ : ∃ W, W = wr := ⟨_, rfl⟩
        rw [← hw'] at hb ⊢
        clear hw' R
        have B8 : Hid (Below w.heap.size w w8) := Lib.hid (B7.out.trans (hb.mono B7.out.size))
        have M8 := Lib.hid (M7.out.below hb)
        have V8 := Lib.hid (V7.out.below hb)
        have U8 := Lib.hid (U7.out.below hb)
        have S8 := Lib.hid (S7.out.below hb)
        have X8 := Lib.hid (X7.out.below hb)
        clear hb B7 M7 V7 U7 S7 X7
        clear Z7
        go_wp2_with fail
        have BH : Hid (∀ W, Below w8.heap.size w8 W → Calls Tryd.prog 9 #[.slice va n vc] W fun e w' => ∃ g cap, e = .returned (.slice (some ⟨g, 0, none⟩) (n + 1) cap) ∧ n + 1 ≤ cap ∧ cap ≤ 9223372036854775807 ∧ Row kAm w' (.slice (some ⟨g, 0, none⟩) n cap) l ∧ Below W.heap.size W w') := Lib.hid fun W h => behind_n _ l m W n HN.out.1 (V8.out.below h) (M8.out.below h) ZZ.out.1
        have BU : Hid (∀ W, Below w8.heap.size w8 W → Calls Tryd.prog 9 #[.slice xa k xc] W fun e w' => ∃ g cap, e = .returned (.slice (some ⟨g, 0, none⟩) (k + 1) cap) ∧ k + 1 ≤ cap ∧ cap ≤ 9223372036854775807 ∧ Row kAm w' (.slice (some ⟨g, 0, none⟩) k cap) X ∧ Below W.heap.size W w') := Lib.hid fun W h => behind_n _ X m W k HK.out (X8.out.below h) (M8.out.below h) ZK.out
        have BD : Hid (Below w8.heap.size w8 w8.drew) := Lib.hid ((Below.refl _ w8).drew)
        have FN : Hid (∀ W g cap g' cap', Row kAm W (.slice (some ⟨g, 0, none⟩) n cap) l → Row kAm W (.slice (some ⟨g', 0, none⟩) k cap') X → Calls Tryd.prog 18 #[.slice (some ⟨g, 0, none⟩) n cap, .slice (some ⟨g', 0, none⟩) k cap'] W fun e w' => e = .returned (.tuple #[.string ⟨#[]⟩, .int .i64 0]) ∧ Below W.heap.size W w') := Lib.hid fun W g cap g' cap' h h' => within_lit _ _ l X ⟨#[]⟩ W h h' PB.out.2.2.2.2.1 PB.out.2.2.2.1
        have MK : True := trivial
        go_cut [16, 12] (fun s16 s12 wx => s16 = .string ⟨#[]⟩ ∧ s12 = .int .i64 0 ∧ Below w8.heap.size w8 wx)
        case first =>
          go_region_with (first | (go_at_call 9; clear MK; refine (BH.out _ BD.out).mono ?_; rintro e x2 ⟨g2, cap2, rfl, hc2, hd2, hr2, hb2⟩; have Q2 : Hid (Row kAm x2 (.slice (some ⟨g2, 0, none⟩) n cap2) l ∧ Below w8.heap.size w8 x2) := Lib.hid ⟨hr2, BD.out.trans hb2⟩; have i2 : (n : Int) ≤ (cap2 : Int) := (by omega); clear hr2 hb2) | (go_at_call 9; refine (BU.out _ Q2.out.2).mono ?_; rintro e x3 ⟨g3, cap3, rfl, hc3, hd3, hr3, hb3⟩; have Q3 : Hid (Row kAm x3 (.slice (some ⟨g2, 0, none⟩) n cap2) l ∧ Row kAm x3 (.slice (some ⟨g3, 0, none⟩) k cap3) X ∧ Below w8.heap.size w8 x3) := Lib.hid ⟨Q2.out.1.below hb3, hr3, Q2.out.2.trans (hb3.mono Q2.out.2.size)⟩; have i3 : (k : Int) ≤ (cap3 : Int) := (by omega); clear hr3 hb3) | (go_at_call 18; refine (FN.out _ g2 cap2 g3 cap3 Q3.out.1 Q3.out.2.1).mono ?_; rintro e x4 ⟨rfl, hb4⟩; have Q4 : Hid (Below w8.heap.size w8 x4) := Lib.hid (Q3.out.2.2.trans (hb4.mono Q3.out.2.2.size)); clear hb4))
          all_goals
            go_wp2_with fail
            go_meet
            exact ⟨rfl, rfl, Q4.out⟩
        case rest =>
          clear MK BH BU FN BD
          obtain ⟨rfl, rfl, hb⟩ := hcut
          obtain ⟨w9, hwc⟩ : ∃ W, W = wc := ⟨_, rfl⟩
          rw [← hwc] at hb ⊢
          clear hwc
          have B9 : Hid (Below w.heap.size w w9) := Lib.hid (B8.out.trans (hb.mono B8.out.size))
          have M9 := Lib.hid (M8.out.below hb)
          have V9 := Lib.hid (V8.out.below hb)
          have U9 := Lib.hid (U8.out.below hb)
          have S9 := Lib.hid (S8.out.below hb)
          have X9 := Lib.hid (X8.out.below hb)
          clear hb B8 M8 V8 U8 S8 X8
          go_wp2_with fail
          go_loopg [17, 18] n (fun g so si wr => ∃ (i : Nat) (na : Option Addr) (nn nc : Nat), i ≤ n ∧ g = n - i ∧ si = .int .i64 i ∧ so = .slice na nn nc ∧ OwnR kAm w9.heap.size wr (.slice na nn nc) (nam (l.take i) t) ∧ Below w9.heap.size w9 wr)
          case atStart => exact ⟨0, none, 0, 0, Nat.zero_le _, rfl, rfl, rfl, OwnR.nil _ _ _, Below.refl _ _⟩
          case round =>
            obtain ⟨i, na, nn, nc, hi, hg, rfl, rfl, ho, hb⟩ := hrel
            have R : Hid (gk = n - i ∧ OwnR kAm w9.heap.size wr (.slice na nn nc) (nam (l.take i) t) ∧ Below w9.heap.size w9 wr) := Lib.hid ⟨hg, ho, hb⟩
            clear hg ho hb
            by_cases hlt : i < n
            · have hlt' : (i : Int) < (n : Int) := by omega
              have hil : i < l.length := by rw [← HN.out.1]; exact hlt
              obtain ⟨b, off, rfl, pc⟩ := (V9.out.below R.out.2.2).at i hil
              have TK : Hid (l.take (i + 1) = l.take i ++ [l.getD i kAm.z]) := Lib.hid (take_onez l i kAm.z hil)
              obtain ⟨⟨xn, xv⟩, hx⟩ : ∃ x, x = l.getD i kAm.z := ⟨_, rfl⟩
              rw [← hx] at pc TK
              have c0 : wr.cell? ⟨b, off + i * 2, none⟩ = some (.string xn) := pc 0 _ rfl
              have c1 : wr.cell? ⟨b, off + i * 2 + 1, none⟩ = some (.int .i64 xv) := pc 1 _ rfl
              clear hx pc hil
              obtain ⟨y, hy⟩ : ∃ y, y = findA xn (toA t) := ⟨_, rfl⟩
              obtain ⟨yv, yb⟩ := y
              have OF : Hid (Calls Tryd.prog 17 #[.slice ua n' uc, .string xn] wr fun e w' => e = .returned (.tuple #[.int .i64 yv, .bool yb]) ∧ Below wr.heap.size wr w') := Lib.hid (by
                have q := of_any (.slice ua n' uc) (toA t) xn wr (amts_row (U9.out.below R.out.2.2))
                rw [← hy] at q; exact q)
              have YB : Hid ((findA (⟨xn, xv⟩ : Am).n (toA t)).2 = yb) := Lib.hid (by rw [← hy])
              clear hy
              go_wp2_with fail
              refine OF.out.mono ?_
              rintro e x3 ⟨rfl, hb⟩
              have B9 : Hid (Below w9.heap.size w9 x3 ∧ OwnR kAm w9.heap.size x3 (.slice na nn nc) (nam (l.take i) t) ∧ w9.heap.size ≤ x3.heap.size) := Lib.hid (by have q := R.out.2.2.trans (hb.mono R.out.2.2.size); exact ⟨q, R.out.2.1.below hb, q.size⟩)
              have d0 := (hb.cell (block_lt_of_cell c0)).trans c0
              have d1 := (hb.cell (block_lt_of_cell c1)).trans c1
              clear hb OF c0 c1
              cases yb with
              | false =>
                have AD : Hid (nam [⟨xn, xv⟩] t = []) := Lib.hid (by unfold nam; rw [List.filter_cons, YB.out]; rfl)
                go_wp2_with fail
                go_roundg (n - (i + 1))
                case measure => have := R.out.1; omega
                case rel => exact ⟨i + 1, na, nn, nc, by omega, rfl, by go_num, rfl, by have q := B9.out.2.1; rw [TK.out, nam_app, AD.out, List.append_nil]; exact q, B9.out.1⟩
              | true =>
                have AD : Hid (nam [⟨xn, xv⟩] t = [⟨xn, xv⟩]) := Lib.hid (by unfold nam; rw [List.filter_cons, YB.out]; rfl)
                have LN : Hid (((nam (l.take i) t).length + 1) * kAm.b ≤ 140737488355328) := Lib.hid (by
                  have q := nam_len (l.take i) t
                  rw [List.length_take] at q
                  have := ZZ.out.1
                  show ((nam (l.take i) t).length + 1) * 24 ≤ _
                  omega)
                go_wp2_with (at_builtin; refine app_rowB okAm (gg := x3.heap.size) rfl _ _ rfl rfl B9.out.2.1 B9.out.2.2 ⟨xn, xv⟩ (by simp) rfl rfl LN.out ?_; intro v' w' h1 h2)
                obtain ⟨a2, c2, rfl⟩ := h1.slice
                have Z2 : Hid (OwnR kAm w9.heap.size w' (.slice a2 (nam (l.take i) t ++ [(⟨xn, xv⟩ : Am)]).length c2) (nam (l.take (i + 1)) t) ∧ Below w9.heap.size w9 w') := Lib.hid ⟨by rw [TK.out, nam_app, AD.out]; exact h1, B9.out.1.trans (grown_belowR h2 B9.out.2.1 B9.out.2.2)⟩
                clear h1 h2 d0 d1
                go_wp2_with fail
                go_roundg (n - (i + 1))
                case measure => have := R.out.1; omega
                case rel => exact ⟨i + 1, a2, _, c2, by omega, rfl, by go_num, rfl, Z2.out.1, Z2.out.2⟩
            · have hin : ¬ (i : Int) < (n : Int) := by omega
              have NM : Hid (OwnR kAm w9.heap.size wr (.slice na nn nc) (nam l t) ∧ Below w9.heap.size w9 wr) := Lib.hid ⟨by have q := R.out.2.1; rw [List.take_of_length_le (by rw [← HN.out.1]; omega)] at q; exact q, R.out.2.2⟩
              obtain ⟨w10, hw'⟩ : ∃ W, W = wr := ⟨_, rfl⟩
              rw [← hw'] at NM ⊢
              clear hw' R
              have hb := NM.out.2
              have N10 := Lib.hid (NM.out.1.row okAm)
              have NL : Hid (nn = (nam l t).length) := Lib.hid (by obtain ⟨_, _, e⟩ := NM.out.1.slice; simp only [Value.slice.injEq] at e; exact e.2.1)
              clear NM
              have B10 : Hid (Below w.heap.size w w10) := Lib.hid (B9.out.trans (hb.mono B9.out.size))
              have M10 := Lib.hid (M9.out.below hb)
              have V10 := Lib.hid (V9.out.below hb)
              have U10 := Lib.hid (U9.out.below hb)
              have S10 := Lib.hid (S9.out.below hb)
              have X10 := Lib.hid (X9.out.below hb)
              clear hb B9 M9 V9 U9 S9 X9
              go_wp2_with fail
              refine (behind_n _ t m w10 n' HN.out.2.1 U10.out M10.out ZZ.out.2.1).mono ?_
              rintro e w11 ⟨g7, cap7, rfl, hc7, hd7, hr, hb⟩
              have D11 := Lib.hid hr
              clear hr
              have B11 : Hid (Below w.heap.size w w11) := Lib.hid (B10.out.trans (hb.mono B10.out.size))
              have M11 := Lib.hid (M10.out.below hb)
              have V11 := Lib.hid (V10.out.below hb)
              have U11 := Lib.hid (U10.out.below hb)
              have S11 := Lib.hid (S10.out.below hb)
              have X11 := Lib.hid (X10.out.below hb)
              have N11 := Lib.hid (N10.out.below hb)
              clear hb B10 M10 V10 U10 S10 X10 N10
              have i7 : (n' : Int) ≤ (cap7 : Int) := by omega
              go_wp2_with fail
              refine (minus_lit _ _ t (nam l t) MN 0 kn w11 D11.out (plain_of _ _ _) N11.out FF.out.2.1 (fun x hx => FF.out.1 x (nam_mem hx)) HMN.out HMM.out HKN.out).mono ?_
              rintro e w12 ⟨ma, mc, rfl, hm1, hm2, hr, hb⟩
              clear hr
              have B12 : Hid (Below w.heap.size w w12) := Lib.hid (B11.out.trans (hb.mono B11.out.size))
              have M12 := Lib.hid (M11.out.below hb)
              have V12 := Lib.hid (V11.out.below hb)
              have U12 := Lib.hid (U11.out.below hb)
              have S12 := Lib.hid (S11.out.below hb)
              have X12 := Lib.hid (X11.out.below hb)
              clear hb B11 M11 V11 U11 S11 X11
              clear D11 N11 hm1 hm2
              go_wp2_with fail
              have BH : Hid (∀ W, Below w12.heap.size w12 W → Calls Tryd.prog 9 #[.slice va n vc] W fun e w' => ∃ g cap, e = .returned (.slice (some ⟨g, 0, none⟩) (n + 1) cap) ∧ n + 1 ≤ cap ∧ cap ≤ 9223372036854775807 ∧ Row kAm w' (.slice (some ⟨g, 0, none⟩) n cap) l ∧ Below W.heap.size W w') := Lib.hid fun W h => behind_n _ l m W n HN.out.1 (V12.out.below h) (M12.out.below h) ZZ.out.1
              have BU : Hid (∀ W, Below w12.heap.size w12 W → Calls Tryd.prog 9 #[.slice ua n' uc] W fun e w' => ∃ g cap, e = .returned (.slice (some ⟨g, 0, none⟩) (n' + 1) cap) ∧ n' + 1 ≤ cap ∧ cap ≤ 9223372036854775807 ∧ Row kAm w' (.slice (some ⟨g, 0, none⟩) n' cap) t ∧ Below W.heap.size W w') := Lib.hid fun W h => behind_n _ t m W n' HN.out.2.1 (U12.out.below h) (M12.out.below h) ZZ.out.2.1
              have BD : Hid (Below w12.heap.size w12 w12.drew) := Lib.hid ((Below.refl _ w12).drew)
              have FN : Hid (∀ W g cap g' cap', Row kAm W (.slice (some ⟨g, 0, none⟩) n cap) l → Row kAm W (.slice (some ⟨g', 0, none⟩) n' cap') t → Calls Tryd.prog 18 #[.slice (some ⟨g, 0, none⟩) n cap, .slice (some ⟨g', 0, none⟩) n' cap'] W fun e w' => e = .returned (.tuple #[.string ⟨#[]⟩, .int .i64 0]) ∧ Below W.heap.size W w') := Lib.hid fun W g cap g' cap' h h' => within_lit _ _ l t ⟨#[]⟩ W h h' HBB.out HWI.out
              have MK : True := trivial
              go_cut [23, 24] (fun s23 s24 wx => s23 = .string ⟨#[]⟩ ∧ s24 = .int .i64 0 ∧ Below w12.heap.size w12 wx)
              case first =>
                go_region_with (first | (go_at_call 9; clear MK; refine (BH.out _ BD.out).mono ?_; rintro e x2 ⟨g2, cap2, rfl, hc2, hd2, hr2, hb2⟩; have Q2 : Hid (Row kAm x2 (.slice (some ⟨g2, 0, none⟩) n cap2) l ∧ Below w12.heap.size w12 x2) := Lib.hid ⟨hr2, BD.out.trans hb2⟩; have i2 : (n : Int) ≤ (cap2 : Int) := (by omega); clear hr2 hb2) | (go_at_call 9; refine (BU.out _ Q2.out.2).mono ?_; rintro e x3 ⟨g3, cap3, rfl, hc3, hd3, hr3, hb3⟩; have Q3 : Hid (Row kAm x3 (.slice (some ⟨g2, 0, none⟩) n cap2) l ∧ Row kAm x3 (.slice (some ⟨g3, 0, none⟩) n' cap3) t ∧ Below w12.heap.size w12 x3) := Lib.hid ⟨Q2.out.1.below hb3, hr3, Q2.out.2.trans (hb3.mono Q2.out.2.size)⟩; have i3 : (n' : Int) ≤ (cap3 : Int) := (by omega); clear hr3 hb3) | (go_at_call 18; refine (FN.out _ g2 cap2 g3 cap3 Q3.out.1 Q3.out.2.1).mono ?_; rintro e x4 ⟨rfl, hb4⟩; have Q4 : Hid (Below w12.heap.size w12 x4) := Lib.hid (Q3.out.2.2.trans (hb4.mono Q3.out.2.2.size)); clear hb4))
                all_goals
                  go_wp2_with fail
                  go_meet
                  exact ⟨rfl, rfl, Q4.out⟩
              case rest =>
                clear MK BH BU FN BD
                obtain ⟨rfl, rfl, hb⟩ := hcut
                obtain ⟨w13, hwc⟩ : ∃ W, W = wc := ⟨_, rfl⟩
                rw [← hwc] at hb ⊢
                clear hwc
                have B13 : Hid (Below w.heap.size w w13) := Lib.hid (B12.out.trans (hb.mono B12.out.size))
                have M13 := Lib.hid (M12.out.below hb)
                have V13 := Lib.hid (V12.out.below hb)
                have U13 := Lib.hid (U12.out.below hb)
                have S13 := Lib.hid (S12.out.below hb)
                have X13 := Lib.hid (X12.out.below hb)
                clear hb B12 M12 V12 U12 S12 X12
                go_wp2_with fail
                refine (added_any _ _ X s P1 E1 k1 m w13 X13.out S13.out M13.out (by rw [← HK.out]; exact ZK.out) (by rw [← HN.out.2.2]; exact ZZ.out.2.2) XF.out FF.out.2.2 H1.out.1 H1.out.2.1 H1.out.2.2).mono ?_
                rintro e w14 ⟨pa, pc, rfl, hp1, hp2, hr, hb⟩
                have P14 := Lib.hid hr
                clear hr
                have B14 : Hid (Below w.heap.size w w14) := Lib.hid (B13.out.trans (hb.mono B13.out.size))
                have M14 := Lib.hid (M13.out.below hb)
                have V14 := Lib.hid (V13.out.below hb)
                have U14 := Lib.hid (U13.out.below hb)
                have S14 := Lib.hid (S13.out.below hb)
                have X14 := Lib.hid (X13.out.below hb)
                clear hb B13 M13 V13 U13 S13 X13
                go_wp2_with fail
                refine (added_any _ _ t s P2 E2 k2 m w14 U14.out S14.out M14.out (by rw [← HN.out.2.1]; exact ZZ.out.2.1) (by rw [← HN.out.2.2]; exact ZZ.out.2.2) FF.out.2.1 FF.out.2.2 H2.out.1 H2.out.2.1 H2.out.2.2).mono ?_
                rintro e w15 ⟨qa, qc, rfl, hq1, hq2, hr, hb⟩
                have Q15 := Lib.hid hr
                clear hr
                have B15 : Hid (Below w.heap.size w w15) := Lib.hid (B14.out.trans (hb.mono B14.out.size))
                have M15 := Lib.hid (M14.out.below hb)
                have V15 := Lib.hid (V14.out.below hb)
                have U15 := Lib.hid (U14.out.below hb)
                have S15 := Lib.hid (S14.out.below hb)
                have X15 := Lib.hid (X14.out.below hb)
                have P15 := Lib.hid (P14.out.below hb)
                clear hb B14 M14 V14 U14 S14 X14 P14
                go_wp2_with fail
                refine (added_any _ _ l P2 P3 E3 k3 m w15 V15.out Q15.out M15.out (by rw [← HN.out.1]; exact ZZ.out.1) H23.out.1 FF.out.1 H23.out.2 H3.out.1 H3.out.2.1 H3.out.2.2).mono ?_
                rintro e w16 ⟨ra, rc, rfl, hr1, hr2, hr, hb⟩
                have R16 := Lib.hid hr
                clear hr
                have B16 : Hid (Below w.heap.size w w16) := Lib.hid (B15.out.trans (hb.mono B15.out.size))
                have M16 := Lib.hid (M15.out.below hb)
                have V16 := Lib.hid (V15.out.below hb)
                have U16 := Lib.hid (U15.out.below hb)
                have S16 := Lib.hid (S15.out.below hb)
                have X16 := Lib.hid (X15.out.below hb)
                have P16 := Lib.hid (P15.out.below hb)
                have Q16 := Lib.hid (Q15.out.below hb)
                clear hb B15 M15 V15 U15 S15 X15 P15 Q15
                by_cases z1 : E1 = 0
                · subst z1
                  by_cases z2 : E2 = 0
                  · subst z2
                    by_cases z3 : E3 = 0
                    · subst z3
                      have EQ : Hid (P3 = P1) := Lib.hid (by rw [← H1.out.2.1, ← H3.out.2.1, ← H2.out.2.1, ← HL.out]; exact (plus_three HE.out (by rw [HL.out]; exact H1.out.1) H2.out.1 (by rw [H2.out.2.1]; exact H3.out.1)).symm)
                      have R9 : Hid (Row kAm w16 (.slice ra k3 rc) P1) := Lib.hid (by rw [← EQ.out]; exact R16.out)
                      go_wp2_with fail
                      refine (same_row _ _ P1 w16 P16.out R9.out).mono ?_
                      rintro e w99 ⟨rfl, hb⟩
                      have B99 := Lib.hid (B16.out.trans (hb.mono B16.out.size))
                      clear hb
                      go_wp2_with fail
                      go_ret
                      exact ⟨rfl, B99.out⟩
                    · have f1 : (E3 == 0) = false := by rw [beq_eq_false_iff_ne]; assumption
                      have f2 : (E3 != 0) = true := by rw [bne_iff_ne]; assumption
                      go_wp2_with fail
                      go_ret
                      exact ⟨rfl, B16.out⟩
                  · have f1 : (E2 == 0) = false := by rw [beq_eq_false_iff_ne]; assumption
                    have f2 : (E2 != 0) = true := by rw [bne_iff_ne]; assumption
                    go_wp2_with fail
                    go_ret
                    exact ⟨rfl, B16.out⟩
                · have f1 : (E1 == 0) = false := by rw [beq_eq_false_iff_ne]; assumption
                  have f2 : (E1 != 0) = true := by rw [bne_iff_ne]; assumption
                  go_wp2_with fail
                  go_ret
                  exact ⟨rfl, B16.out⟩

end Go.Proofs.YtendjedlcobhlaaDoor
