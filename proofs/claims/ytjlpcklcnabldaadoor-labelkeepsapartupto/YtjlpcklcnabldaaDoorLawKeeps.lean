/-
  The law LabelKeepsApart.
-/
import Derived.Test.YtjlpcklcnabldaaDoorKaC
import Derived.Test.YtjlpcklcnabldaaDoorLFixed
namespace Go.Proofs.YtjlpcklcnabldaaDoor
open Go.RowKit
theorem trms_below {w w' : World} {v : Value} {ys : List L.Trm} (h : L.Trms w v ys) (hb : Below w.heap.size w w') : L.Trms w' v ys := h.below hb
set_option maxHeartbeats 16000000 in
set_option maxRecDepth 100000 in
theorem labelKeepsApart_walk (p s : ByteArray) (w : World) (hm : L.HasM w) (_hp : p.size ≤ 1048576) (hs : s.size ≤ 1048576) :
    Calls Tryd.prog 3 #[.string p, .string s] w fun e w' => e = .returned (.bool true) ∧ Below w.heap.size w w' := by
  have FX := Lib.hid (L.fixed_ok w hm)
  have H := Lib.hid hm
  have PS : Hid (∀ W, Below w.heap.size w W → Calls Tryd.prog 10 #[.string s] W fun e w' => L.ParseR W.heap.size w' (L.ps3 s.data.toList) e ∧ Below W.heap.size W w') := Lib.hid fun W h => L.parse_any s W (H.out.below h) (by omega)
  clear hm hs
  go_enter Tryd.func3, Tryd.ntmps3
  go_wp2_with fail
  refine FX.out.mono ?_
  rintro e w1 ⟨rfl, hb⟩
  have B1 := Lib.hid hb
  clear hb FX
  cases hsp : L.splitO p with
  | none =>
    have E41 : L.splitE p = 41 := by unfold L.splitE; rw [hsp]; rfl
    have LN : Hid (∀ W, Below w.heap.size w W → Calls Tryd.prog 5 #[.string p] W fun e w' => e = .returned (.tuple #[.slice none 0 0, .int .i64 41]) ∧ Below W.heap.size W w') := Lib.hid fun W h => line_none p W (H.out.below h) E41
    have SN : Hid (∀ W, Below w.heap.size w W → Calls Tryd.prog 8 #[.string p] W fun e w' => ∃ a n c, e = .returned (.tuple #[.slice a n c, .int .i64 41]) ∧ Below W.heap.size W w') := Lib.hid fun W h => by
      have q := L.split_any p W (H.out.below h)
      rw [E41] at q
      refine q.mono ?_
      rintro e w' ⟨v, he, ho, hb⟩
      obtain ⟨a, c, rfl⟩ := ownS_slice ho
      exact ⟨a, _, c, he, hb⟩
    clear hsp E41
    go_wp2_with fail
    refine (LN.out w1 B1.out).mono ?_
    rintro e w2 ⟨rfl, hb⟩
    have B2 := Lib.hid (B1.out.trans (hb.mono B1.out.size))
    clear hb
    go_wp2_with fail
    refine (LN.out w2 B2.out).mono ?_
    rintro e w3 ⟨rfl, hb⟩
    have B3 := Lib.hid (B2.out.trans (hb.mono B2.out.size))
    clear hb
    go_wp2_with fail
    refine (SN.out w3 B3.out).mono ?_
    rintro e w4 ⟨sa, sn, sc, rfl, hb⟩
    have B4 := Lib.hid (B3.out.trans (hb.mono B3.out.size))
    clear hb LN SN
    cases hps : L.ps3 s.data.toList with
    | none =>
      have PN : Hid (∀ W, Below w.heap.size w W → Calls Tryd.prog 10 #[.string s] W fun e w' => e = .returned (.tuple #[.slice none 0 0, .int .i64 43]) ∧ Below W.heap.size W w') := Lib.hid fun W h => by have q := PS.out W h; rw [hps] at q; exact q
      go_wp2_with fail
      refine (PN.out w4 B4.out).mono ?_
      rintro e w5 ⟨rfl, hb⟩
      have B5 : Hid (Below w.heap.size w w5) := Lib.hid (B4.out.trans (hb.mono B4.out.size))
      clear hb
      go_wp2_with fail
      refine (PN.out w5 B5.out).mono ?_
      rintro e w6 ⟨rfl, hb⟩
      have B6 : Hid (Below w.heap.size w w6) := Lib.hid (B5.out.trans (hb.mono B5.out.size))
      clear hb
      go_wp2_with fail
      go_ret
      exact ⟨rfl, B6.out⟩
    | some xs =>
      have PY : Hid (∀ W, Below w.heap.size w W → Calls Tryd.prog 10 #[.string s] W fun e w' => (∃ v ys, e = .returned (.tuple #[v, .int .i64 0]) ∧ ys.map L.t3 = xs ∧ (v = .slice none 0 0 ∧ ys = [] ∨ L.OwnTs W.heap.size w' v ys)) ∧ Below W.heap.size W w') := Lib.hid fun W h => by have q := PS.out W h; rw [hps] at q; exact q
      have OK := Lib.hid (L.ps3_pr hps).1
      clear hps
      go_wp2_with fail
      refine (PY.out w4 B4.out).mono ?_
      rintro e wa ⟨⟨tv, ys, rfl, ht3, hto⟩, hb⟩
      have Ba : Hid (Below w.heap.size w wa) := Lib.hid (B4.out.trans (hb.mono B4.out.size))
      have Sa := Lib.hid hb
      have TA := Lib.hid (L.parsed_trms hto ht3 OK.out)
      have T3 := Lib.hid ht3
      obtain ⟨ta, n, tc, g, rfl, hn, htc, hta⟩ := parsed_slice hto
      have TS := Lib.hid hta
      have HN := Lib.hid hn
      have n8 : n ≤ 8 := by rw [hn]; exact TA.out.2.1
      clear hb hto ht3 hta hn
      go_wp2_with fail
      refine (PY.out wa Ba.out).mono ?_
      rintro e wb ⟨⟨uv, us, rfl, hu3, huo⟩, hb⟩
      have Bb : Hid (Below w.heap.size w wb) := Lib.hid (Ba.out.trans (hb.mono Ba.out.size))
      have Sb := Lib.hid hb
      have UO := Lib.hid huo
      have U3 := Lib.hid hu3
      obtain ⟨ua, un, uc, _, rfl, -, -, -⟩ := parsed_slice huo
      have OW := Lib.hid (L.own_any (.slice ta n tc) ys wb (TA.out.1.below hb) (by have := TA.out.2.1; omega) (fun y hy => by have := TA.out.2.2 y hy; omega))
      clear hb huo hu3
      go_wp2_with fail
      refine OW.out.mono ?_
      rintro e wc ⟨vv, vs, rfl, hv3, hvo, hb⟩
      have Bc : Hid (Below w.heap.size w wc) := Lib.hid (Bb.out.trans (hb.mono Bb.out.size))
      have V3 := Lib.hid hv3
      have Q0 : Hid (Q3 w4 g n wa.heap.size wb.heap.size (.slice ua un uc) vv us vs wc ys (fun q => (ys.getD q L.zeroT).ts)) := Lib.hid (q3_start (fun q => ⟨(TS.out q).2.2.1, (TS.out q).2.2.2⟩) UO.out hvo Sa.out Sb.out hb)
      obtain ⟨va, vc, rfl⟩ := copied_slice hvo
      obtain ⟨vn, hvn⟩ : ∃ m, m = vs.length := ⟨_, rfl⟩
      rw [← hvn] at Q0 ⊢
      clear hb hvo hv3 hvn OW UO
      go_wp2_with fail
      go_loopg [26] n (fun gg si wr => ∃ (i : Nat) (f : Nat → List ByteArray), gg = n - i ∧ i ≤ n ∧ si = .int .i64 i ∧ Q3 w4 g n wa.heap.size wb.heap.size (.slice ua un uc) (.slice va vn vc) us vs wr ys f ∧ (∀ q, (f q).length ≤ 8) ∧ ∀ q, q < i → ∀ t ∈ f q, t = ⟨#[120]⟩)
      case atStart => exact ⟨0, _, rfl, Nat.zero_le _, rfl, Q0.out, fun q => by
        by_cases z : q < ys.length
        · rw [List.getD_eq_getElem?_getD, List.getElem?_eq_getElem z]; exact TA.out.2.2 _ (List.getElem_mem z)
        · rw [List.getD_eq_getElem?_getD, List.getElem?_eq_none (by omega)]; decide, fun q hq => absurd hq (Nat.not_lt_zero _)⟩
      case round =>
        clear Q0
        obtain ⟨i, f, hg, hi, rfl, hq, h8, hx⟩ := hrel
        have R : Hid (gk = n - i ∧ Q3 w4 g n wa.heap.size wb.heap.size (.slice ua un uc) (.slice va vn vc) us vs wr ys f ∧ (∀ q, (f q).length ≤ 8) ∧ ∀ q, q < i → ∀ t ∈ f q, t = ⟨#[120]⟩) := Lib.hid ⟨hg, hq, h8, hx⟩
        clear hg hq h8 hx
        by_cases hlt : i < n
        · have hlt' : (i : Int) < (n : Int) := by omega
          have n0 : 0 < n := by omega
          obtain ⟨eta, -, -, -⟩ := TS.out n0
          subst eta
          clear n0
          go_wp2_with fail
          go_loopg [27] 8 (fun gg sj wy => ∃ (j : Nat) (f : Nat → List ByteArray), gg = 8 - j ∧ sj = .int .i64 j ∧ Q3 w4 g n wa.heap.size wb.heap.size (.slice ua un uc) (.slice va vn vc) us vs wy ys f ∧ (∀ q, (f q).length ≤ 8) ∧ (∀ q, q < i → ∀ t ∈ f q, t = ⟨#[120]⟩) ∧ j ≤ (f i).length ∧ ∀ q, q < j → (f i).getD q ⟨#[]⟩ = ⟨#[120]⟩)
          case atStart => exact ⟨0, f, rfl, rfl, R.out.2.1, R.out.2.2.1, R.out.2.2.2, Nat.zero_le _, fun q hq => absurd hq (Nat.not_lt_zero _)⟩
          case round =>
            obtain ⟨j, f, hg, rfl, hq, h8, hx, hj, hxj⟩ := hrel
            have P : Hid (gk = 8 - j ∧ Q3 w4 g n wa.heap.size wb.heap.size (.slice ua un uc) (.slice va vn vc) us vs wr ys f ∧ (∀ q, (f q).length ≤ 8) ∧ (∀ q, q < i → ∀ t ∈ f q, t = ⟨#[120]⟩) ∧ j ≤ (f i).length ∧ ∀ q, q < j → (f i).getD q ⟨#[]⟩ = ⟨#[120]⟩) := Lib.hid ⟨hg, hq, h8, hx, hj, hxj⟩
            clear hg hq h8 hx hxj
            have N0 : Hid (0 < n) := Lib.hid (by omega)
            obtain ⟨xa, xc, ev, cv⟩ := (P.out.2.1.tt N0.out).vals i hlt
            obtain ⟨m, hm⟩ : ∃ m, m = (f i).length := ⟨_, rfl⟩
            rw [← hm] at ev cv hj
            have HM := Lib.hid hm
            have EV := Lib.hid ev
            have m8 : m ≤ 8 := by rw [hm]; exact P.out.2.2.1 i
            clear hm ev
            by_cases hjm : j < m
            · have hjm' : (j : Int) < (m : Int) := by omega
              have OX : Hid (L.OwnS (g + 1) wr (.slice xa m xc) (f i)) := Lib.hid (by have q := (P.out.2.1.tt N0.out).own i hlt; rw [EV.out] at q; exact q)
              obtain ⟨b, rfl, -, -, -⟩ := ownS_some OX.out (by rw [← HM.out]; omega)
              have c0 := ownS_at OX.out j (by rw [← HM.out]; exact hjm)
              have f0 := ownS_frz OX.out j
              obtain ⟨old, hold⟩ : ∃ t, t = (f i).getD j ⟨#[]⟩ := ⟨_, rfl⟩
              rw [← hold] at c0
              clear hold
              have QS := Lib.hid (P.out.2.1.set i j b m xc hlt EV.out (by rw [← HM.out]; exact hjm) ⟨#[120]⟩)
              go_wp2_with fail
              go_roundg (8 - (j + 1))
              case measure => have := P.out.1; omega
              case rel => exact ⟨j + 1, _, rfl, by first | rfl | go_num | (congr 1; omega), QS.out, fun q => by
                  by_cases z : q = i
                  · simp only [if_pos z, List.length_set]; exact P.out.2.2.1 i
                  · simp only [if_neg z]; exact P.out.2.2.1 q, fun q hq t ht => by
                  simp only [if_neg (show ¬ q = i by omega)] at ht; exact P.out.2.2.2.1 q hq t ht, by simp only [if_true, List.length_set]; rw [← HM.out]; omega, fun q hq => by
                  simp only [if_true]; rw [getD_set_str _ _ _ _ (by rw [← HM.out]; exact hjm)]; split
                  · rfl
                  · exact P.out.2.2.2.2.2 q (by omega)⟩
            · have hge : decide ((j : Int) < (m : Int)) = false := decide_eq_false (by omega)
              go_wp2_with fail
              go_roundg (n - (i + 1))
              case measure => have := R.out.1; omega
              case rel => exact ⟨i + 1, f, rfl, by omega, by first | rfl | go_num | (congr 1; omega), P.out.2.1, P.out.2.2.1, fun q hq => by
                  by_cases z : q = i
                  · rw [z]; exact all_of_get (fun r hr => P.out.2.2.2.2.2 r (by rw [← HM.out] at hr; omega))
                  · exact P.out.2.2.2.1 q (by omega)⟩
        · have hge : decide ((i : Int) < (n : Int)) = false := decide_eq_false (by omega)
          have Q1 : Hid (Q3 w4 g n wa.heap.size wb.heap.size (.slice ua un uc) (.slice va vn vc) us vs wr ys f ∧ (∀ q, (f q).length ≤ 8) ∧ ∀ q, q < n → ∀ t ∈ f q, t = ⟨#[120]⟩) := Lib.hid ⟨R.out.2.1, R.out.2.2.1, fun q hq => R.out.2.2.2 q (by omega)⟩
          obtain ⟨wd, hwd⟩ : ∃ W, W = wr := ⟨_, rfl⟩
          rw [← hwd] at Q1 ⊢
          clear hwd R
          go_wp2_with fail
          clear hge hlt hi
          go_loopg [28] n (fun gg si wr => ∃ (i : Nat), gg = n - i ∧ i ≤ n ∧ si = .int .i64 i ∧ Q3 w4 g n wa.heap.size wb.heap.size (.slice ua un uc) (.slice va vn vc) us vs wr ys f)
          case atStart => exact ⟨0, rfl, Nat.zero_le _, rfl, Q1.out.1⟩
          case round =>
            obtain ⟨i, hg, hi, rfl, hq⟩ := hrel
            have R : Hid (gk = n - i ∧ Q3 w4 g n wa.heap.size wb.heap.size (.slice ua un uc) (.slice va vn vc) us vs wr ys f) := Lib.hid ⟨hg, hq⟩
            clear hg hq
            by_cases hlt : i < n
            · have hlt' : (i : Int) < (n : Int) := by omega
              have N0 : Hid (0 < n) := Lib.hid (by omega)
              obtain ⟨eta, -, -, -⟩ := TS.out N0.out
              subst eta
              obtain ⟨xa, xc, ev, cv⟩ := (R.out.2.tt N0.out).vals i hlt
              obtain ⟨m, hm⟩ : ∃ m, m = (f i).length := ⟨_, rfl⟩
              rw [← hm] at ev cv
              have HM := Lib.hid hm
              have EV := Lib.hid ev
              have m8 : m ≤ 8 := by rw [hm]; exact Q1.out.2.1 i
              clear hm ev
              have OX : Hid (L.OwnS (g + 1) wr (.slice xa m xc) (f i)) := Lib.hid (by have q := (R.out.2.tt N0.out).own i hlt; rw [EV.out] at q; exact q)
              have GZ : Hid (g + 1 ≤ wr.heap.size) := Lib.hid (Nat.succ_le_of_lt (R.out.2.tt N0.out).row.lt)
              have LZ : Hid (((f i).length + 1) * 16 ≤ 140737488355328) := Lib.hid (by have := Q1.out.2.1 i; omega)
              go_wp2_with (at_builtin; refine app_keep rfl _ _ rfl rfl OX.out GZ.out ⟨#[121]⟩ rfl rfl LZ.out ?_; intro g2 m2 c2 w6 K6; have Q6 := Lib.hid (R.out.2.grown i hlt (by rw [EV.out]; exact K6.out.2.2.2) (by rw [EV.out]; exact K6.out.1)); have e2 : (m2 : Int) - 1 = (m : Int) := (by have := K6.out.2.2.1; have := HM.out; omega); have w2 : IntKind.i64.wrap ((m2 : Int) - 1) = (m : Int) := (by rw [e2, IntKind.wrap_i64]; omega); have l2 : (m : Int) < (m2 : Int) := (by have := K6.out.2.2.1; have := HM.out; omega); have c6 : w6.cell? ⟨g2, m, none⟩ = some (.string ⟨#[121]⟩) := (by have q := ownS_at K6.out.2.1 m (by rw [List.length_append, HM.out]; simp); rw [q, HM.out]; simp); have m29 : m2 ≤ 9 := (by have := K6.out.2.2.1; have := HM.out; omega))
              go_wp2_with fail
              go_roundg (n - (i + 1))
              case measure => have := R.out.1; omega
              case rel => exact ⟨i + 1, rfl, by omega, by first | rfl | go_num | (congr 1; omega), Q6.out⟩
            · have hge : decide ((i : Int) < (n : Int)) = false := decide_eq_false (by omega)
              have Q2 : Hid (Q3 w4 g n wa.heap.size wb.heap.size (.slice ua un uc) (.slice va vn vc) us vs wr ys f) := Lib.hid R.out.2
              obtain ⟨we, hwe⟩ : ∃ W, W = wr := ⟨_, rfl⟩
              rw [← hwe] at Q2 ⊢
              clear hwe R
              go_wp2_with fail
              clear hge hlt hi
              go_loopg [30] n (fun gg si wr => ∃ (i : Nat) (zs : List L.Trm), gg = n - i ∧ i ≤ n ∧ si = .int .i64 i ∧ Q3 w4 g n wa.heap.size wb.heap.size (.slice ua un uc) (.slice va vn vc) us vs wr zs f ∧ ∀ q, q < i → (zs.getD q L.zeroT).key = ⟨#[122]⟩)
              case atStart => exact ⟨0, ys, rfl, Nat.zero_le _, rfl, Q2.out, fun q hq => absurd hq (Nat.not_lt_zero _)⟩
              case round =>
                obtain ⟨i, zs, hg, hi, rfl, hq, hz⟩ := hrel
                have R : Hid (gk = n - i ∧ Q3 w4 g n wa.heap.size wb.heap.size (.slice ua un uc) (.slice va vn vc) us vs wr zs f ∧ ∀ q, q < i → (zs.getD q L.zeroT).key = ⟨#[122]⟩) := Lib.hid ⟨hg, hq, hz⟩
                clear hg hq hz
                by_cases hlt : i < n
                · have hlt' : (i : Int) < (n : Int) := by omega
                  have N0 : Hid (0 < n) := Lib.hid (by omega)
                  obtain ⟨eta, -, -, -⟩ := TS.out N0.out
                  subst eta
                  obtain ⟨ck, fk⟩ := (R.out.2.1.tt N0.out).key i hlt
                  obtain ⟨old, hold⟩ : ∃ t, t = (zs.getD i L.zeroT).key := ⟨_, rfl⟩
                  rw [← hold] at ck
                  clear hold
                  have QK := Lib.hid (R.out.2.1.rekey i hlt ⟨#[122]⟩)
                  go_wp2_with fail
                  go_roundg (n - (i + 1))
                  case measure => have := R.out.1; omega
                  case rel => exact ⟨i + 1, _, rfl, by omega, by first | rfl | go_num | (congr 1; omega), QK.out, fun q hq => by
                        rw [getD_setT _ _ _ _ (by rw [(R.out.2.1.tt N0.out).len]; exact hlt)]; split
                        · rfl
                        · exact R.out.2.2 q (by omega)⟩
                · have hge : decide ((i : Int) < (n : Int)) = false := decide_eq_false (by omega)
                  have Q4 : Hid (Q3 w4 g n wa.heap.size wb.heap.size (.slice ua un uc) (.slice va vn vc) us vs wr zs f ∧ ∀ q, q < n → (zs.getD q L.zeroT).key = ⟨#[122]⟩) := Lib.hid ⟨R.out.2.1, fun q hq => R.out.2.2 q (by omega)⟩
                  obtain ⟨wf, hwf⟩ : ∃ W, W = wr := ⟨_, rfl⟩
                  rw [← hwf] at Q4 ⊢
                  clear hwf R
                  have Bf : Hid (Below w.heap.size w wf) := Lib.hid (B4.out.trans (Q4.out.1.be.mono B4.out.size))
                  go_wp2_with fail
                  clear hge hlt hi
                  refine (PY.out wf Bf.out).mono ?_
                  rintro e wg ⟨⟨xv, ws, rfl, hw3, hwo⟩, hb⟩
                  have Q5 : Hid (Q3 w4 g n wa.heap.size wb.heap.size (.slice ua un uc) (.slice va vn vc) us vs wg zs f) := Lib.hid (Q4.out.1.below hb)
                  have WT := Lib.hid (L.parsed_trms hwo hw3 OK.out).1
                  have W3 := Lib.hid hw3
                  obtain ⟨xa, xn, xc, _, rfl, -, -, -⟩ := parsed_slice hwo
                  have Bg : Hid (Below w.heap.size w wg) := Lib.hid (Bf.out.trans (hb.mono Bf.out.size))
                  clear hb hwo hw3
                  go_wp2_with fail
                  go_loopg [33] n (fun gg si wr => ∃ (i : Nat), gg = n - i ∧ i ≤ n ∧ si = .int .i64 i ∧ wr = wg)
                  case atStart => exact ⟨0, rfl, Nat.zero_le _, rfl, rfl⟩
                  case round =>
                    obtain ⟨i, hg, hi, rfl, rfl⟩ := hrel
                    have R := Lib.hid hg
                    clear hg
                    by_cases hlt : i < n
                    · have hlt' : (i : Int) < (n : Int) := by omega
                      have N0 : Hid (0 < n) := Lib.hid (by omega)
                      obtain ⟨eta, -, -, -⟩ := TS.out N0.out
                      subst eta
                      obtain ⟨ck, -⟩ := (Q5.out.tt N0.out).key i hlt
                      rw [Q4.out.2 i hlt] at ck
                      obtain ⟨ya, yc, ev, cv⟩ := (Q5.out.tt N0.out).vals i hlt
                      obtain ⟨m, hm⟩ : ∃ m, m = (f i).length := ⟨_, rfl⟩
                      rw [← hm] at ev cv
                      have AL := Lib.hid (all_yes (.slice ya m yc) (f i) ⟨#[120]⟩ _ (by have q := ((Q5.out.tt N0.out).own i hlt).strs; rw [ev] at q; exact q) (Q1.out.2.2 i hlt))
                      clear ev hm
                      go_wp2_with (first | (go_at_call 7; refine AL.out.mono ?_; rintro e w9 ⟨rfl, rfl⟩))
                      go_roundg (n - (i + 1))
                      case measure => have := R.out; omega
                      case rel => exact ⟨i + 1, rfl, by omega, by first | rfl | go_num | (congr 1; omega), rfl⟩
                    · have hge : decide ((i : Int) < (n : Int)) = false := decide_eq_false (by omega)
                      have S1 := Lib.hid (L.sameTerms_yes (.slice ua un uc) (.slice va vn vc) us vs _ (L.parsed_trms Q5.out.uo U3.out OK.out).1 Q5.out.vo.trms (by rw [U3.out, V3.out, T3.out]))
                      go_wp2_with fail
                      refine S1.out.mono ?_
                      rintro e w8 ⟨rfl, hb⟩
                      have S2 := Lib.hid (L.sameTerms_yes (.slice xa xn xc) (.slice va vn vc) ws vs w8 (WT.out.below hb) (Q5.out.below hb).vo.trms (by rw [W3.out, V3.out, T3.out]))
                      have B8 := Lib.hid (Bg.out.trans (hb.mono Bg.out.size))
                      clear hb
                      go_wp2_with fail
                      refine S2.out.mono ?_
                      rintro e w9 ⟨rfl, hb⟩
                      have B9 := Lib.hid (B8.out.trans (hb.mono B8.out.size))
                      clear hb
                      go_wp2_with fail
                      go_ret
                      exact ⟨by first | rfl | simp, B9.out⟩
  | some ts =>
    obtain ⟨ep, hgood⟩ := L.splitO_some hsp
    have E0 : L.splitE p = 0 ∧ L.splitT p = ts := ⟨by unfold L.splitE; rw [hsp]; rfl, by unfold L.splitT; rw [hsp]; rfl⟩
    have t8 : ts.length ≤ 8 := hgood.2.1
    obtain ⟨LL, hLL⟩ : ∃ l, l = L.lineOf ts := ⟨_, rfl⟩
    have lenL : LL.length = ts.length + 1 := by rw [hLL]; exact L.lineTo_length ts _
    obtain ⟨N, hN⟩ : ∃ n, n = LL.length := ⟨_, rfl⟩
    have NL := Lib.hid hN
    have N9 : N ≤ 9 := by omega
    have N1 : 1 ≤ N := by omega
    have LN : Hid (∀ W, Below w.heap.size w W → Calls Tryd.prog 5 #[.string p] W fun e w' => ∃ g c, e = .returned (.tuple #[.slice (some ⟨g, 0, none⟩) N c, .int .i64 0]) ∧ L.OwnS W.heap.size w' (.slice (some ⟨g, 0, none⟩) N c) LL ∧ Below W.heap.size W w') := Lib.hid fun W h => by
      have q := L.line_any ts hgood W (H.out.below h)
      rw [← ep, ← hLL] at q
      refine q.mono ?_
      rintro e w' ⟨v, he, ho, hb⟩
      obtain ⟨a, c, rfl⟩ := ownS_slice ho
      obtain ⟨g, rfl, _, _, _⟩ := ownS_some ho (by omega)
      rw [← hN] at he ho
      exact ⟨g, c, he, ho, hb⟩
    obtain ⟨n, hn⟩ : ∃ n, n = ts.length := ⟨_, rfl⟩
    have HNT := Lib.hid hn
    have n8 : n ≤ 8 := by omega
    have SN : Hid (∀ W, Below w.heap.size w W → Calls Tryd.prog 8 #[.string p] W fun e w' => ∃ a c, e = .returned (.tuple #[.slice a n c, .int .i64 0]) ∧ L.OwnS W.heap.size w' (.slice a n c) ts ∧ Below W.heap.size W w') := Lib.hid fun W h => by
      have q := L.split_any p W (H.out.below h)
      rw [E0.1, E0.2] at q
      refine q.mono ?_
      rintro e w' ⟨v, he, ho, hb⟩
      obtain ⟨a, c, rfl⟩ := ownS_slice ho
      rw [← hn] at he ho
      exact ⟨a, c, he, ho, hb⟩
    clear hsp ep hgood E0 hLL lenL hN hn t8
    go_wp2_with fail
    refine (LN.out w1 B1.out).mono ?_
    rintro e w2 ⟨ga, ca, rfl, ho, hb⟩
    have B2 := Lib.hid (B1.out.trans (hb.mono B1.out.size))
    have S12 := Lib.hid hb
    have OA := Lib.hid ho
    clear hb ho
    go_wp2_with fail
    refine (LN.out w2 B2.out).mono ?_
    rintro e w3 ⟨gb, cb, rfl, ho, hb⟩
    have B3 := Lib.hid (B2.out.trans (hb.mono B2.out.size))
    have S23 := Lib.hid hb
    have OB := Lib.hid ho
    have OA3 := Lib.hid (OA.out.below hb)
    clear hb ho
    have LZ : Hid (LL.length * 16 ≤ 140737488355328) := Lib.hid (by rw [← NL.out]; omega)
    go_wp2_with (at_builtin; refine L.app_copy rfl _ _ rfl rfl OA3.out.strs rfl LZ.out ?_; intro vc w4 hc hb4; obtain ⟨xa, cc, ee⟩ := ownS_slice hc; rw [← NL.out] at ee; subst ee; have S34 := Lib.hid hb4; have OC := Lib.hid hc; clear hb4 hc)
    have TN : Hid (Tn w1 w2.heap.size (some ⟨ga, 0, none⟩) N ca LL ⟨#[120]⟩ 0 w4 w4) := Lib.hid ⟨OA3.out.below S34.out, fun b hb => by have := (OA.out.lt b hb).2; exact this, (S12.out.trans (S23.out.mono S12.out.size)).trans (S34.out.mono (Nat.le_trans S12.out.size S23.out.size)), Hi.refl _ _⟩
    have OB4 : Hid (L.OwnS w2.heap.size w4 (.slice (some ⟨gb, 0, none⟩) N cb) LL ∧ L.OwnS w2.heap.size w4 (.slice xa N cc) LL) := Lib.hid ⟨OB.out.below S34.out, ownS_mono OC.out S23.out.size⟩
    clear OA OA3 OB OC S12 S23 S34 B2 B3 LZ
    go_wp2_with fail
    go_loopg [11] N (fun gg si wr => ∃ (i : Nat), gg = N - i ∧ i ≤ N ∧ si = .int .i64 i ∧ Tn w1 w2.heap.size (some ⟨ga, 0, none⟩) N ca LL ⟨#[120]⟩ i w4 wr)
    case atStart => exact ⟨0, rfl, Nat.zero_le _, rfl, TN.out⟩
    case round =>
      obtain ⟨i, hg, hi, rfl, hq⟩ := hrel
      have R : Hid (gk = N - i ∧ Tn w1 w2.heap.size (some ⟨ga, 0, none⟩) N ca LL ⟨#[120]⟩ i w4 wr) := Lib.hid ⟨hg, hq⟩
      clear hg hq
      by_cases hlt : i < N
      · have hlt' : (i : Int) < (N : Int) := by omega
        have c0 := ownS_at R.out.2.own i (by rw [turn_len _ _ (by rw [← NL.out]; exact hi), ← NL.out]; exact hlt)
        have f0 := ownS_frz R.out.2.own i
        obtain ⟨old, hold⟩ : ∃ t, t = (List.replicate i (⟨#[120]⟩ : ByteArray) ++ LL.drop i).getD i ⟨#[]⟩ := ⟨_, rfl⟩
        rw [← hold] at c0
        clear hold
        have TS := Lib.hid (R.out.2.step (by rw [← NL.out]; exact hlt))
        go_wp2_with fail
        go_roundg (N - (i + 1))
        case measure => have := R.out.1; omega
        case rel => exact ⟨i + 1, rfl, by omega, by first | rfl | go_num | (congr 1; omega), TS.out⟩
      · have hge : decide ((i : Int) < (N : Int)) = false := decide_eq_false (by omega)
        have TE : Hid (L.OwnS w1.heap.size wr (.slice (some ⟨ga, 0, none⟩) N ca) (List.replicate N ⟨#[120]⟩) ∧ ga < w2.heap.size ∧ Below w1.heap.size w1 wr ∧ Hi w2.heap.size w4 wr) := Lib.hid ⟨by have q := R.out.2.own; rw [show i = N by omega, NL.out, turn_all] at q; rw [NL.out]; exact q, R.out.2.lim ga rfl, R.out.2.be, R.out.2.hi⟩
        have LZ : Hid (((List.replicate N (⟨#[120]⟩ : ByteArray)).length + 1) * 16 ≤ 140737488355328) := Lib.hid (by rw [List.length_replicate]; omega)
        have WZ := Lib.hid TE.out.2.2.1.size
        go_wp2_with (at_builtin; refine app_keep rfl _ _ rfl rfl TE.out.1 WZ.out ⟨#[121]⟩ rfl rfl LZ.out ?_; intro g2 m2 c2 w6 K6; have m2e : m2 = N + 1 := (by have := K6.out.2.2.1; rw [List.length_replicate] at this; exact this))
        clear hge hlt hi R
        subst m2e
        have T6 : Hid (Below w1.heap.size w1 w6 ∧ Hi w2.heap.size w4 w6) := Lib.hid ⟨TE.out.2.2.1.trans (grown_belowR K6.out.2.2.2 (own_kT.1 TE.out.1) WZ.out), TE.out.2.2.2.trans (Hi.grown K6.out.2.2.2 (fun q e => by have e2 : some ga = some q := e; injection e2 with e2; have := TE.out.2.1; omega))⟩
        have B6 := Lib.hid (B1.out.trans (T6.out.1.mono B1.out.size))
        go_wp2_with fail
        refine (LN.out w6 B6.out).mono ?_
        rintro e w7 ⟨gd, cd, rfl, ho, hb⟩
        have B7 := Lib.hid (B6.out.trans (hb.mono B6.out.size))
        have H7 : Hid (Hi w2.heap.size w4 w7) := Lib.hid (T6.out.2.trans (Hi.below hb))
        have D1 := Lib.hid (L.sameTexts_yes _ _ LL w7 (ownS_hi OB4.out.1 H7.out).strs (ownS_hi OB4.out.2 H7.out).strs)
        have CD : Hid (∀ W, Below w7.heap.size w7 W → L.Strs W (.slice xa N cc) LL ∧ L.Strs W (.slice (some ⟨gd, 0, none⟩) N cd) LL ∧ L.Strs W (.slice (some ⟨ga, 0, none⟩) N ca) (List.replicate N ⟨#[120]⟩)) := Lib.hid fun W h => ⟨((ownS_hi OB4.out.2 H7.out).below h).strs, (ho.below h).strs, ((K6.out.1.below hb).below h).strs⟩
        have cy : ∀ W, Below w7.heap.size w7 W → W.cell? ⟨g2, N, none⟩ = some (.string ⟨#[121]⟩) := fun W h => by
          have q := ownS_at ((K6.out.2.1.below hb).below h) N (by rw [List.length_append, List.length_replicate]; simp)
          rw [q]; congr 2
          rw [List.getD_eq_getElem?_getD, List.getElem?_append_right (by simp)]; simp
        have CY := Lib.hid cy
        clear hb ho cy K6 T6 TE LZ WZ
        go_wp2_with fail
        refine D1.out.mono ?_
        rintro e w8 ⟨rfl, hb8⟩
        have S8 : Hid (Below w7.heap.size w7 w8) := Lib.hid hb8
        have D2 := Lib.hid (L.sameTexts_yes _ _ LL w8 (CD.out w8 hb8).1 (CD.out w8 hb8).2.1)
        clear hb8 D1
        go_wp2_with fail
        refine D2.out.mono ?_
        rintro e w9 ⟨rfl, hb9⟩
        have S9 : Hid (Below w7.heap.size w7 w9) := Lib.hid (S8.out.trans (hb9.mono S8.out.size))
        have c9 := CY.out w9 S9.out
        have e2 : ((N + 1 : Nat) : Int) - 1 = (N : Int) := by omega
        have l2 : (N : Int) < ((N + 1 : Nat) : Int) := by omega
        have AL := Lib.hid (all_yes (.slice (some ⟨ga, 0, none⟩) N ca) (List.replicate N ⟨#[120]⟩) ⟨#[120]⟩ w9 (CD.out w9 S9.out).2.2 (fun t ht => (List.mem_replicate.1 ht).2))
        clear hb9 D2 S8
        go_wp2_with (first | (go_at_call 7; refine AL.out.mono ?_; rintro e w10 ⟨rfl, rfl⟩))
        have B10 : Hid (Below w.heap.size w w10) := Lib.hid (B7.out.trans (S9.out.mono B7.out.size))
        clear S9 c9 AL CD CY B7 B6 e2 l2 OB4 TN H7
        refine (SN.out w10 B10.out).mono ?_
        rintro e w11 ⟨na, nc, rfl, ho, hb⟩
        have S11 := Lib.hid hb
        have ON := Lib.hid ho
        have B11 := Lib.hid (B10.out.trans (hb.mono B10.out.size))
        clear ho hb
        have LZ : Hid (ts.length * 16 ≤ 140737488355328) := Lib.hid (by rw [← HNT.out]; omega)
        have LF : Hid ((ts.length + [(⟨#[109, 49]⟩ : ByteArray), ⟨#[109, 50]⟩].length) * kT.b ≤ 140737488355328) := Lib.hid (by rw [← HNT.out]; exact Nat.le_trans (Nat.mul_le_mul_right 16 (show n + 2 ≤ 10 by omega)) (by decide))
        have F1 : True := trivial
        have F2 : True := trivial
        go_wp2_with (first
          | (at_builtin; clear F1; refine L.app_copy rfl _ _ rfl rfl ON.out.strs rfl LZ.out ?_; intro vc w12 hc hb; obtain ⟨pa, pc, ee⟩ := ownS_slice hc; rw [← HNT.out] at ee; subst ee; have S12 := Lib.hid hb; have OC := Lib.hid hc; have ON2 := Lib.hid (ON.out.below hb); clear hb hc)
          | (at_builtin; clear F2; refine L.app_copy rfl _ _ rfl rfl ON2.out.strs rfl LZ.out ?_; intro vf w13 hc hb; obtain ⟨fa, fc, ee⟩ := ownS_slice hc; rw [← HNT.out] at ee; subst ee; have S13 := Lib.hid hb; have OF := Lib.hid hc; have A13 : Hid (Below w13.heap.size w13 (w13.alloc (.cells #[.string ⟨#[109, 49]⟩, .string ⟨#[109, 50]⟩] 9))) := Lib.hid ((Below.refl _ w13).alloc (Nat.le_refl _) _); clear hb hc)
          | (at_builtin; refine app_rowsK okT (B := w12.heap.size) (w := w13.alloc (.cells #[.string ⟨#[109, 49]⟩, .string ⟨#[109, 50]⟩] 9)) (v := .slice fa n fc) (u := .slice (some ⟨w13.heap.size, 0, none⟩) 2 2) (l := ts) (m := [⟨#[109, 49]⟩, ⟨#[109, 50]⟩]) rfl _ _ rfl rfl (own_kT.1 (OF.out.below A13.out)) (Nat.le_trans S13.out.size A13.out.size) rfl (two_row w13 ⟨#[109, 49]⟩ ⟨#[109, 50]⟩) LF.out ?_; intro v14 w14 ho hg; obtain ⟨aa, cf, ee⟩ := ho.slice; subst ee; obtain ⟨gf, ee2, _, _, _⟩ := ho.someOf (by simp); subst ee2; obtain ⟨mf, hmf⟩ : ∃ m, m = (ts ++ [(⟨#[109, 49]⟩ : ByteArray), ⟨#[109, 50]⟩]).length := ⟨_, rfl⟩; rw [← hmf] at ho ⊢; have MF : mf = n + 2 := (by rw [hmf, HNT.out]; simp); clear hmf; subst MF; have OG := Lib.hid (own_kT.2 ho); have S14 : Hid (Below w12.heap.size w12 w14) := Lib.hid ((S13.out.trans (A13.out.mono S13.out.size)).trans (grown_belowR hg (own_kT.1 (OF.out.below A13.out)) (Nat.le_trans S13.out.size A13.out.size))); have icf : (n : Int) ≤ (cf : Int) := (by obtain ⟨_, _, e, h1, _⟩ := OG.out.strs.len; simp only [Value.slice.injEq] at e; rw [← e.2.1, ← e.2.2] at h1; omega); have JN := Lib.hid (L.join_any (.slice (some ⟨gf, 0, none⟩) n cf) ts w14 (by have q := strs_front OG.out.strs; rw [← HNT.out] at q; exact q)); clear ho hg)
          | (go_at_call 9; refine JN.out.mono ?_; rintro e w15 ⟨rfl, hb⟩; have S15 := Lib.hid hb; clear hb))
        have G15 : Hid (∀ W, Below w15.heap.size w15 W → L.OwnS w12.heap.size W (.slice (some ⟨gf, 0, none⟩) (n + 2) cf) (ts ++ [⟨#[109, 49]⟩, ⟨#[109, 50]⟩]) ∧ L.OwnS w11.heap.size W (.slice pa n pc) ts ∧ L.OwnS w10.heap.size W (.slice na n nc) ts) := Lib.hid fun W h => by
          have q15 : Below w12.heap.size w12 w15 := S14.out.trans (S15.out.mono S14.out.size)
          exact ⟨(OG.out.below S15.out).below h, (OC.out.below q15).below h, (ON2.out.below q15).below h⟩
        have Q15 : Hid (Below w10.heap.size w10 w15) := Lib.hid (by
          have q1 := S11.out.trans (S12.out.mono S11.out.size)
          have q2 := q1.trans (S14.out.mono q1.size)
          exact q2.trans (S15.out.mono q2.size))
        have NB : Hid (∀ b, (Value.slice na n nc).ownBlock = some b → b < w11.heap.size) := Lib.hid fun b hb => (ON.out.lt b hb).2
        have D1 := Lib.hid (L.sameTexts_yes (.slice (some ⟨gf, 0, none⟩) n cf) (.slice pa n pc) ts w15 (by have q := strs_front (G15.out w15 (Below.refl _ _)).1.strs; rw [← HNT.out] at q; exact q) (G15.out w15 (Below.refl _ _)).2.1.strs)
        clear JN OG OC ON ON2 OF S11 S12 S13 S14 S15 A13 LF
        go_wp2_with fail
        refine D1.out.mono ?_
        rintro e w16 ⟨rfl, hb⟩
        have S16 := Lib.hid hb
        have B16 : Hid (Below w10.heap.size w10 w16) := Lib.hid (Q15.out.trans (hb.mono Q15.out.size))
        have cm1 : w16.cell? ⟨gf, n, none⟩ = some (.string ⟨#[109, 49]⟩) := by
          have q := ownS_at (G15.out w16 hb).1 n (by rw [List.length_append, ← HNT.out]; simp)
          rw [q]; congr 2; rw [List.getD_eq_getElem?_getD, List.getElem?_append_right (by rw [← HNT.out]; exact Nat.le_refl _), ← HNT.out]; simp
        have cm2 : w16.cell? ⟨gf, n + 1, none⟩ = some (.string ⟨#[109, 50]⟩) := by
          have q := ownS_at (G15.out w16 hb).1 (n + 1) (by rw [List.length_append, ← HNT.out]; simp)
          rw [q]; congr 2; rw [List.getD_eq_getElem?_getD, List.getElem?_append_right (by rw [← HNT.out]; omega), ← HNT.out]; simp
        have l1 : (n : Int) < ((n + 2 : Nat) : Int) := by omega
        have l2 : (n : Int) + 1 < ((n + 2 : Nat) : Int) := by omega
        have TN : Hid (Tn w10 w11.heap.size na n nc ts ⟨#[120]⟩ 0 w16 w16 ∧ L.OwnS w11.heap.size w16 (.slice pa n pc) ts) := Lib.hid ⟨⟨(G15.out w16 hb).2.2, NB.out, B16.out, Hi.refl _ _⟩, (G15.out w16 hb).2.1⟩
        clear hb D1
        go_wp2_with fail
        clear cm1 cm2 l1 l2 G15 Q15 S16 NB
        go_loopg [18] n (fun gg si wr => ∃ (i : Nat), gg = n - i ∧ i ≤ n ∧ si = .int .i64 i ∧ Tn w10 w11.heap.size na n nc ts ⟨#[120]⟩ i w16 wr)
        case atStart => exact ⟨0, rfl, Nat.zero_le _, rfl, TN.out.1⟩
        case round =>
          obtain ⟨i, hg, hi, rfl, hq⟩ := hrel
          have R : Hid (gk = n - i ∧ Tn w10 w11.heap.size na n nc ts ⟨#[120]⟩ i w16 wr) := Lib.hid ⟨hg, hq⟩
          clear hg hq
          by_cases hlt : i < n
          · have hlt' : (i : Int) < (n : Int) := by omega
            have ll : 0 < (List.replicate i (⟨#[120]⟩ : ByteArray) ++ ts.drop i).length := by rw [turn_len _ _ (by rw [← HNT.out]; exact hi), ← HNT.out]; omega
            obtain ⟨gn, rfl, -, -, -⟩ := ownS_some R.out.2.own ll
            have c0 := ownS_at R.out.2.own i (by rw [turn_len _ _ (by rw [← HNT.out]; exact hi), ← HNT.out]; exact hlt)
            have f0 := ownS_frz R.out.2.own i
            obtain ⟨old, hold⟩ : ∃ t, t = (List.replicate i (⟨#[120]⟩ : ByteArray) ++ ts.drop i).getD i ⟨#[]⟩ := ⟨_, rfl⟩
            rw [← hold] at c0
            clear hold ll
            have TS := Lib.hid (R.out.2.step (by rw [← HNT.out]; exact hlt))
            go_wp2_with fail
            go_roundg (n - (i + 1))
            case measure => have := R.out.1; omega
            case rel => exact ⟨i + 1, rfl, by omega, by first | rfl | go_num | (congr 1; omega), TS.out⟩
          · have hge : decide ((i : Int) < (n : Int)) = false := decide_eq_false (by omega)
            have TE : Hid (L.OwnS w10.heap.size wr (.slice na n nc) (List.replicate n ⟨#[120]⟩) ∧ (∀ b, (Value.slice na n nc).ownBlock = some b → b < w11.heap.size) ∧ Below w10.heap.size w10 wr ∧ Hi w11.heap.size w16 wr) := Lib.hid ⟨by have q := R.out.2.own; rw [show i = n by omega, HNT.out, turn_all] at q; rw [HNT.out]; exact q, R.out.2.lim, R.out.2.be, R.out.2.hi⟩
            have LY : Hid (((List.replicate n (⟨#[120]⟩ : ByteArray)).length + 1) * 16 ≤ 140737488355328) := Lib.hid (by rw [List.length_replicate]; omega)
            have WZ := Lib.hid TE.out.2.2.1.size
            go_wp2_with (at_builtin; refine app_keep rfl _ _ rfl rfl TE.out.1 WZ.out ⟨#[121]⟩ rfl rfl LY.out ?_; intro g3 m3 c3 w18 K6; have m3e : m3 = n + 1 := (by have := K6.out.2.2.1; rw [List.length_replicate] at this; exact this))
            clear hge hlt hi R
            subst m3e
            have T6 : Hid (Below w10.heap.size w10 w18 ∧ Hi w11.heap.size w16 w18) := Lib.hid ⟨TE.out.2.2.1.trans (grown_belowR K6.out.2.2.2 (own_kT.1 TE.out.1) WZ.out), TE.out.2.2.2.trans (Hi.grown K6.out.2.2.2 (fun q e => TE.out.2.1 q e))⟩
            have B18 := Lib.hid (B10.out.trans (T6.out.1.mono B10.out.size))
            go_wp2_with fail
            refine (SN.out w18 B18.out).mono ?_
            rintro e w19 ⟨da, dc, rfl, ho, hb⟩
            have B19 := Lib.hid (B18.out.trans (hb.mono B18.out.size))
            have H19 : Hid (Hi w11.heap.size w16 w19) := Lib.hid (T6.out.2.trans (Hi.below hb))
            have D1 := Lib.hid (L.sameTexts_yes _ _ ts w19 (ownS_hi TN.out.2 H19.out).strs ho.strs)
            have CA : Hid (∀ W, Below w19.heap.size w19 W → L.Strs W (.slice na n nc) (List.replicate n ⟨#[120]⟩)) := Lib.hid fun W h => ((K6.out.1.below hb).below h).strs
            have gm : (((n + 1 : Nat) : Int) != (n : Int) + 1) = false := by rw [bne_eq_false_iff_eq]; omega
            have gm2 : (((n + 1 : Nat) : Int) == (n : Int) + 1) = true := by rw [beq_iff_eq]; omega
            clear hb ho K6 T6 TE LY WZ
            go_wp2_with fail
            refine D1.out.mono ?_
            rintro e w20 ⟨rfl, hb⟩
            have B20 := Lib.hid (B19.out.trans (hb.mono B19.out.size))
            have AL := Lib.hid (all_yes (.slice na n nc) (List.replicate n ⟨#[120]⟩) ⟨#[120]⟩ w20 (CA.out w20 hb) (fun t ht => (List.mem_replicate.1 ht).2))
            clear hb D1
            go_wp2_with (first | (go_at_call 7; refine AL.out.mono ?_; rintro e w21 ⟨rfl, rfl⟩))
            clear AL CA H19 B19 B18 TN gm gm2 LN SN NL HNT N9 N1
            have B21 := B20
            cases hps : L.ps3 s.data.toList with
            | none =>
              have PN : Hid (∀ W, Below w.heap.size w W → Calls Tryd.prog 10 #[.string s] W fun e w' => e = .returned (.tuple #[.slice none 0 0, .int .i64 43]) ∧ Below W.heap.size W w') := Lib.hid fun W h => by have q := PS.out W h; rw [hps] at q; exact q
              skip
              refine (PN.out w21 B21.out).mono ?_
              rintro e w22 ⟨rfl, hb⟩
              have B22 : Hid (Below w.heap.size w w22) := Lib.hid (B21.out.trans (hb.mono B21.out.size))
              clear hb
              go_wp2_with fail
              refine (PN.out w22 B22.out).mono ?_
              rintro e w23 ⟨rfl, hb⟩
              have B23 : Hid (Below w.heap.size w w23) := Lib.hid (B22.out.trans (hb.mono B22.out.size))
              clear hb
              go_wp2_with fail
              go_ret
              exact ⟨rfl, B23.out⟩
            | some xs =>
              have PY : Hid (∀ W, Below w.heap.size w W → Calls Tryd.prog 10 #[.string s] W fun e w' => (∃ v ys, e = .returned (.tuple #[v, .int .i64 0]) ∧ ys.map L.t3 = xs ∧ (v = .slice none 0 0 ∧ ys = [] ∨ L.OwnTs W.heap.size w' v ys)) ∧ Below W.heap.size W w') := Lib.hid fun W h => by have q := PS.out W h; rw [hps] at q; exact q
              have OK := Lib.hid (L.ps3_pr hps).1
              clear hps
              skip
              refine (PY.out w21 B21.out).mono ?_
              rintro e wa ⟨⟨tv, ys, rfl, ht3, hto⟩, hb⟩
              have Ba : Hid (Below w.heap.size w wa) := Lib.hid (B21.out.trans (hb.mono B21.out.size))
              have Sa := Lib.hid hb
              have TA := Lib.hid (L.parsed_trms hto ht3 OK.out)
              have T3 := Lib.hid ht3
              obtain ⟨ta, n, tc, g, rfl, hn, htc, hta⟩ := parsed_slice hto
              have TS := Lib.hid hta
              have HN := Lib.hid hn
              have n8 : n ≤ 8 := by rw [hn]; exact TA.out.2.1
              clear hb hto ht3 hta hn
              go_wp2_with fail
              refine (PY.out wa Ba.out).mono ?_
              rintro e wb ⟨⟨uv, us, rfl, hu3, huo⟩, hb⟩
              have Bb : Hid (Below w.heap.size w wb) := Lib.hid (Ba.out.trans (hb.mono Ba.out.size))
              have Sb := Lib.hid hb
              have UO := Lib.hid huo
              have U3 := Lib.hid hu3
              obtain ⟨ua, un, uc, _, rfl, -, -, -⟩ := parsed_slice huo
              have OW := Lib.hid (L.own_any (.slice ta n tc) ys wb (TA.out.1.below hb) (by have := TA.out.2.1; omega) (fun y hy => by have := TA.out.2.2 y hy; omega))
              clear hb huo hu3
              go_wp2_with fail
              refine OW.out.mono ?_
              rintro e wc ⟨vv, vs, rfl, hv3, hvo, hb⟩
              have Bc : Hid (Below w.heap.size w wc) := Lib.hid (Bb.out.trans (hb.mono Bb.out.size))
              have V3 := Lib.hid hv3
              have Q0 : Hid (Q3 w21 g n wa.heap.size wb.heap.size (.slice ua un uc) vv us vs wc ys (fun q => (ys.getD q L.zeroT).ts)) := Lib.hid (q3_start (fun q => ⟨(TS.out q).2.2.1, (TS.out q).2.2.2⟩) UO.out hvo Sa.out Sb.out hb)
              obtain ⟨va, vc, rfl⟩ := copied_slice hvo
              obtain ⟨vn, hvn⟩ : ∃ m, m = vs.length := ⟨_, rfl⟩
              rw [← hvn] at Q0 ⊢
              clear hb hvo hv3 hvn OW UO
              go_wp2_with fail
              go_loopg [26] n (fun gg si wr => ∃ (i : Nat) (f : Nat → List ByteArray), gg = n - i ∧ i ≤ n ∧ si = .int .i64 i ∧ Q3 w21 g n wa.heap.size wb.heap.size (.slice ua un uc) (.slice va vn vc) us vs wr ys f ∧ (∀ q, (f q).length ≤ 8) ∧ ∀ q, q < i → ∀ t ∈ f q, t = ⟨#[120]⟩)
              case atStart => exact ⟨0, _, rfl, Nat.zero_le _, rfl, Q0.out, fun q => by
                by_cases z : q < ys.length
                · rw [List.getD_eq_getElem?_getD, List.getElem?_eq_getElem z]; exact TA.out.2.2 _ (List.getElem_mem z)
                · rw [List.getD_eq_getElem?_getD, List.getElem?_eq_none (by omega)]; decide, fun q hq => absurd hq (Nat.not_lt_zero _)⟩
              case round =>
                clear Q0
                obtain ⟨i, f, hg, hi, rfl, hq, h8, hx⟩ := hrel
                have R : Hid (gk = n - i ∧ Q3 w21 g n wa.heap.size wb.heap.size (.slice ua un uc) (.slice va vn vc) us vs wr ys f ∧ (∀ q, (f q).length ≤ 8) ∧ ∀ q, q < i → ∀ t ∈ f q, t = ⟨#[120]⟩) := Lib.hid ⟨hg, hq, h8, hx⟩
                clear hg hq h8 hx
                by_cases hlt : i < n
                · have hlt' : (i : Int) < (n : Int) := by omega
                  have n0 : 0 < n := by omega
                  obtain ⟨eta, -, -, -⟩ := TS.out n0
                  subst eta
                  clear n0
                  go_wp2_with fail
                  go_loopg [27] 8 (fun gg sj wy => ∃ (j : Nat) (f : Nat → List ByteArray), gg = 8 - j ∧ sj = .int .i64 j ∧ Q3 w21 g n wa.heap.size wb.heap.size (.slice ua un uc) (.slice va vn vc) us vs wy ys f ∧ (∀ q, (f q).length ≤ 8) ∧ (∀ q, q < i → ∀ t ∈ f q, t = ⟨#[120]⟩) ∧ j ≤ (f i).length ∧ ∀ q, q < j → (f i).getD q ⟨#[]⟩ = ⟨#[120]⟩)
                  case atStart => exact ⟨0, f, rfl, rfl, R.out.2.1, R.out.2.2.1, R.out.2.2.2, Nat.zero_le _, fun q hq => absurd hq (Nat.not_lt_zero _)⟩
                  case round =>
                    obtain ⟨j, f, hg, rfl, hq, h8, hx, hj, hxj⟩ := hrel
                    have P : Hid (gk = 8 - j ∧ Q3 w21 g n wa.heap.size wb.heap.size (.slice ua un uc) (.slice va vn vc) us vs wr ys f ∧ (∀ q, (f q).length ≤ 8) ∧ (∀ q, q < i → ∀ t ∈ f q, t = ⟨#[120]⟩) ∧ j ≤ (f i).length ∧ ∀ q, q < j → (f i).getD q ⟨#[]⟩ = ⟨#[120]⟩) := Lib.hid ⟨hg, hq, h8, hx, hj, hxj⟩
                    clear hg hq h8 hx hxj
                    have N0 : Hid (0 < n) := Lib.hid (by omega)
                    obtain ⟨xa, xc, ev, cv⟩ := (P.out.2.1.tt N0.out).vals i hlt
                    obtain ⟨m, hm⟩ : ∃ m, m = (f i).length := ⟨_, rfl⟩
                    rw [← hm] at ev cv hj
                    have HM := Lib.hid hm
                    have EV := Lib.hid ev
                    have m8 : m ≤ 8 := by rw [hm]; exact P.out.2.2.1 i
                    clear hm ev
                    by_cases hjm : j < m
                    · have hjm' : (j : Int) < (m : Int) := by omega
                      have OX : Hid (L.OwnS (g + 1) wr (.slice xa m xc) (f i)) := Lib.hid (by have q := (P.out.2.1.tt N0.out).own i hlt; rw [EV.out] at q; exact q)
                      obtain ⟨b, rfl, -, -, -⟩ := ownS_some OX.out (by rw [← HM.out]; omega)
                      have c0 := ownS_at OX.out j (by rw [← HM.out]; exact hjm)
                      have f0 := ownS_frz OX.out j
                      obtain ⟨old, hold⟩ : ∃ t, t = (f i).getD j ⟨#[]⟩ := ⟨_, rfl⟩
                      rw [← hold] at c0
                      clear hold
                      have QS := Lib.hid (P.out.2.1.set i j b m xc hlt EV.out (by rw [← HM.out]; exact hjm) ⟨#[120]⟩)
                      go_wp2_with fail
                      go_roundg (8 - (j + 1))
                      case measure => have := P.out.1; omega
                      case rel => exact ⟨j + 1, _, rfl, by first | rfl | go_num | (congr 1; omega), QS.out, fun q => by
                          by_cases z : q = i
                          · simp only [if_pos z, List.length_set]; exact P.out.2.2.1 i
                          · simp only [if_neg z]; exact P.out.2.2.1 q, fun q hq t ht => by
                          simp only [if_neg (show ¬ q = i by omega)] at ht; exact P.out.2.2.2.1 q hq t ht, by simp only [if_true, List.length_set]; rw [← HM.out]; omega, fun q hq => by
                          simp only [if_true]; rw [getD_set_str _ _ _ _ (by rw [← HM.out]; exact hjm)]; split
                          · rfl
                          · exact P.out.2.2.2.2.2 q (by omega)⟩
                    · have hge : decide ((j : Int) < (m : Int)) = false := decide_eq_false (by omega)
                      go_wp2_with fail
                      go_roundg (n - (i + 1))
                      case measure => have := R.out.1; omega
                      case rel => exact ⟨i + 1, f, rfl, by omega, by first | rfl | go_num | (congr 1; omega), P.out.2.1, P.out.2.2.1, fun q hq => by
                          by_cases z : q = i
                          · rw [z]; exact all_of_get (fun r hr => P.out.2.2.2.2.2 r (by rw [← HM.out] at hr; omega))
                          · exact P.out.2.2.2.1 q (by omega)⟩
                · have hge : decide ((i : Int) < (n : Int)) = false := decide_eq_false (by omega)
                  have Q1 : Hid (Q3 w21 g n wa.heap.size wb.heap.size (.slice ua un uc) (.slice va vn vc) us vs wr ys f ∧ (∀ q, (f q).length ≤ 8) ∧ ∀ q, q < n → ∀ t ∈ f q, t = ⟨#[120]⟩) := Lib.hid ⟨R.out.2.1, R.out.2.2.1, fun q hq => R.out.2.2.2 q (by omega)⟩
                  obtain ⟨wd, hwd⟩ : ∃ W, W = wr := ⟨_, rfl⟩
                  rw [← hwd] at Q1 ⊢
                  clear hwd R
                  go_wp2_with fail
                  clear hge hlt hi
                  go_loopg [28] n (fun gg si wr => ∃ (i : Nat), gg = n - i ∧ i ≤ n ∧ si = .int .i64 i ∧ Q3 w21 g n wa.heap.size wb.heap.size (.slice ua un uc) (.slice va vn vc) us vs wr ys f)
                  case atStart => exact ⟨0, rfl, Nat.zero_le _, rfl, Q1.out.1⟩
                  case round =>
                    obtain ⟨i, hg, hi, rfl, hq⟩ := hrel
                    have R : Hid (gk = n - i ∧ Q3 w21 g n wa.heap.size wb.heap.size (.slice ua un uc) (.slice va vn vc) us vs wr ys f) := Lib.hid ⟨hg, hq⟩
                    clear hg hq
                    by_cases hlt : i < n
                    · have hlt' : (i : Int) < (n : Int) := by omega
                      have N0 : Hid (0 < n) := Lib.hid (by omega)
                      obtain ⟨eta, -, -, -⟩ := TS.out N0.out
                      subst eta
                      obtain ⟨xa, xc, ev, cv⟩ := (R.out.2.tt N0.out).vals i hlt
                      obtain ⟨m, hm⟩ : ∃ m, m = (f i).length := ⟨_, rfl⟩
                      rw [← hm] at ev cv
                      have HM := Lib.hid hm
                      have EV := Lib.hid ev
                      have m8 : m ≤ 8 := by rw [hm]; exact Q1.out.2.1 i
                      clear hm ev
                      have OX : Hid (L.OwnS (g + 1) wr (.slice xa m xc) (f i)) := Lib.hid (by have q := (R.out.2.tt N0.out).own i hlt; rw [EV.out] at q; exact q)
                      have GZ : Hid (g + 1 ≤ wr.heap.size) := Lib.hid (Nat.succ_le_of_lt (R.out.2.tt N0.out).row.lt)
                      have LZ : Hid (((f i).length + 1) * 16 ≤ 140737488355328) := Lib.hid (by have := Q1.out.2.1 i; omega)
                      go_wp2_with (at_builtin; refine app_keep rfl _ _ rfl rfl OX.out GZ.out ⟨#[121]⟩ rfl rfl LZ.out ?_; intro g2 m2 c2 w6 K6; have Q6 := Lib.hid (R.out.2.grown i hlt (by rw [EV.out]; exact K6.out.2.2.2) (by rw [EV.out]; exact K6.out.1)); have e2 : (m2 : Int) - 1 = (m : Int) := (by have := K6.out.2.2.1; have := HM.out; omega); have w2 : IntKind.i64.wrap ((m2 : Int) - 1) = (m : Int) := (by rw [e2, IntKind.wrap_i64]; omega); have l2 : (m : Int) < (m2 : Int) := (by have := K6.out.2.2.1; have := HM.out; omega); have c6 : w6.cell? ⟨g2, m, none⟩ = some (.string ⟨#[121]⟩) := (by have q := ownS_at K6.out.2.1 m (by rw [List.length_append, HM.out]; simp); rw [q, HM.out]; simp); have m29 : m2 ≤ 9 := (by have := K6.out.2.2.1; have := HM.out; omega))
                      go_wp2_with fail
                      go_roundg (n - (i + 1))
                      case measure => have := R.out.1; omega
                      case rel => exact ⟨i + 1, rfl, by omega, by first | rfl | go_num | (congr 1; omega), Q6.out⟩
                    · have hge : decide ((i : Int) < (n : Int)) = false := decide_eq_false (by omega)
                      have Q2 : Hid (Q3 w21 g n wa.heap.size wb.heap.size (.slice ua un uc) (.slice va vn vc) us vs wr ys f) := Lib.hid R.out.2
                      obtain ⟨we, hwe⟩ : ∃ W, W = wr := ⟨_, rfl⟩
                      rw [← hwe] at Q2 ⊢
                      clear hwe R
                      go_wp2_with fail
                      clear hge hlt hi
                      go_loopg [30] n (fun gg si wr => ∃ (i : Nat) (zs : List L.Trm), gg = n - i ∧ i ≤ n ∧ si = .int .i64 i ∧ Q3 w21 g n wa.heap.size wb.heap.size (.slice ua un uc) (.slice va vn vc) us vs wr zs f ∧ ∀ q, q < i → (zs.getD q L.zeroT).key = ⟨#[122]⟩)
                      case atStart => exact ⟨0, ys, rfl, Nat.zero_le _, rfl, Q2.out, fun q hq => absurd hq (Nat.not_lt_zero _)⟩
                      case round =>
                        obtain ⟨i, zs, hg, hi, rfl, hq, hz⟩ := hrel
                        have R : Hid (gk = n - i ∧ Q3 w21 g n wa.heap.size wb.heap.size (.slice ua un uc) (.slice va vn vc) us vs wr zs f ∧ ∀ q, q < i → (zs.getD q L.zeroT).key = ⟨#[122]⟩) := Lib.hid ⟨hg, hq, hz⟩
                        clear hg hq hz
                        by_cases hlt : i < n
                        · have hlt' : (i : Int) < (n : Int) := by omega
                          have N0 : Hid (0 < n) := Lib.hid (by omega)
                          obtain ⟨eta, -, -, -⟩ := TS.out N0.out
                          subst eta
                          obtain ⟨ck, fk⟩ := (R.out.2.1.tt N0.out).key i hlt
                          obtain ⟨old, hold⟩ : ∃ t, t = (zs.getD i L.zeroT).key := ⟨_, rfl⟩
                          rw [← hold] at ck
                          clear hold
                          have QK := Lib.hid (R.out.2.1.rekey i hlt ⟨#[122]⟩)
                          go_wp2_with fail
                          go_roundg (n - (i + 1))
                          case measure => have := R.out.1; omega
                          case rel => exact ⟨i + 1, _, rfl, by omega, by first | rfl | go_num | (congr 1; omega), QK.out, fun q hq => by
                                rw [getD_setT _ _ _ _ (by rw [(R.out.2.1.tt N0.out).len]; exact hlt)]; split
                                · rfl
                                · exact R.out.2.2 q (by omega)⟩
                        · have hge : decide ((i : Int) < (n : Int)) = false := decide_eq_false (by omega)
                          have Q4 : Hid (Q3 w21 g n wa.heap.size wb.heap.size (.slice ua un uc) (.slice va vn vc) us vs wr zs f ∧ ∀ q, q < n → (zs.getD q L.zeroT).key = ⟨#[122]⟩) := Lib.hid ⟨R.out.2.1, fun q hq => R.out.2.2 q (by omega)⟩
                          obtain ⟨wf, hwf⟩ : ∃ W, W = wr := ⟨_, rfl⟩
                          rw [← hwf] at Q4 ⊢
                          clear hwf R
                          have Bf : Hid (Below w.heap.size w wf) := Lib.hid (B21.out.trans (Q4.out.1.be.mono B21.out.size))
                          go_wp2_with fail
                          clear hge hlt hi
                          refine (PY.out wf Bf.out).mono ?_
                          rintro e wg ⟨⟨xv, ws, rfl, hw3, hwo⟩, hb⟩
                          have Q5 : Hid (Q3 w21 g n wa.heap.size wb.heap.size (.slice ua un uc) (.slice va vn vc) us vs wg zs f) := Lib.hid (Q4.out.1.below hb)
                          have WT := Lib.hid (L.parsed_trms hwo hw3 OK.out).1
                          have W3 := Lib.hid hw3
                          obtain ⟨xa, xn, xc, _, rfl, -, -, -⟩ := parsed_slice hwo
                          have Bg : Hid (Below w.heap.size w wg) := Lib.hid (Bf.out.trans (hb.mono Bf.out.size))
                          clear hb hwo hw3
                          go_wp2_with fail
                          go_loopg [33] n (fun gg si wr => ∃ (i : Nat), gg = n - i ∧ i ≤ n ∧ si = .int .i64 i ∧ wr = wg)
                          case atStart => exact ⟨0, rfl, Nat.zero_le _, rfl, rfl⟩
                          case round =>
                            obtain ⟨i, hg, hi, rfl, rfl⟩ := hrel
                            have R := Lib.hid hg
                            clear hg
                            by_cases hlt : i < n
                            · have hlt' : (i : Int) < (n : Int) := by omega
                              have N0 : Hid (0 < n) := Lib.hid (by omega)
                              obtain ⟨eta, -, -, -⟩ := TS.out N0.out
                              subst eta
                              obtain ⟨ck, -⟩ := (Q5.out.tt N0.out).key i hlt
                              rw [Q4.out.2 i hlt] at ck
                              obtain ⟨ya, yc, ev, cv⟩ := (Q5.out.tt N0.out).vals i hlt
                              obtain ⟨m, hm⟩ : ∃ m, m = (f i).length := ⟨_, rfl⟩
                              rw [← hm] at ev cv
                              have AL := Lib.hid (all_yes (.slice ya m yc) (f i) ⟨#[120]⟩ _ (by have q := ((Q5.out.tt N0.out).own i hlt).strs; rw [ev] at q; exact q) (Q1.out.2.2 i hlt))
                              clear ev hm
                              go_wp2_with (first | (go_at_call 7; refine AL.out.mono ?_; rintro e w9 ⟨rfl, rfl⟩))
                              go_roundg (n - (i + 1))
                              case measure => have := R.out; omega
                              case rel => exact ⟨i + 1, rfl, by omega, by first | rfl | go_num | (congr 1; omega), rfl⟩
                            · have hge : decide ((i : Int) < (n : Int)) = false := decide_eq_false (by omega)
                              have S1 := Lib.hid (L.sameTerms_yes (.slice ua un uc) (.slice va vn vc) us vs _ (L.parsed_trms Q5.out.uo U3.out OK.out).1 Q5.out.vo.trms (by rw [U3.out, V3.out, T3.out]))
                              go_wp2_with fail
                              refine S1.out.mono ?_
                              rintro e w8 ⟨rfl, hb⟩
                              have S2 := Lib.hid (L.sameTerms_yes (.slice xa xn xc) (.slice va vn vc) ws vs w8 (WT.out.below hb) (Q5.out.below hb).vo.trms (by rw [W3.out, V3.out, T3.out]))
                              have B8 := Lib.hid (Bg.out.trans (hb.mono Bg.out.size))
                              clear hb
                              go_wp2_with fail
                              refine S2.out.mono ?_
                              rintro e w9 ⟨rfl, hb⟩
                              have B9 := Lib.hid (B8.out.trans (hb.mono B8.out.size))
                              clear hb
                              go_wp2_with fail
                              go_ret
                              exact ⟨by first | rfl | simp, B9.out⟩
end Go.Proofs.YtjlpcklcnabldaaDoor
