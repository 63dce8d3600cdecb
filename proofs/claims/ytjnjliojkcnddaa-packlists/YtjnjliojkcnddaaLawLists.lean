/-
  THE WALK of PackLists.
-/
import Derived.Test.YtjnjliojkcnddaaTxBack
namespace Go.Proofs.Ytjnjliojkcnddaa
open Go.RowKit

theorem tsum_le (ts : List ByteArray) (hs : ∀ t ∈ ts, t.size ≤ 140737488355328) : tsum ts ≤ 2 + ts.length * 140737488355338 := by
  induction ts with
  | nil => simp [tsum]
  | cons t ts ih =>
    have i := ih (fun x hx => hs x (by simp [hx]))
    have ht := hs t (by simp)
    unfold tsum at i ⊢
    rw [List.map_cons, List.sum_cons, List.length_cons]
    omega

set_option maxHeartbeats 8000000 in
set_option maxRecDepth 100000 in
theorem packLists_walk (v : Value) (ts : List ByteArray) (vd : Value) (d : List UInt8) (vb : Value) (m : List UInt8) (w : World) (hv : Strs w v ts) (hts : (∀ t ∈ ts, t.size ≤ 140737488355328) ∧ ts.length ≤ 8796093021952)
    (hd : Bytes w vd d) (hdl : d.length ≤ 140737488351232) (hm : Bytes w vb m) (hml : m.length ≤ 140737488351232) :
    Calls Try.prog 4 #[v, vd, vb] w fun e w' => e = .returned (.bool true) ∧ Below w.heap.size w w' := by
  obtain ⟨a, cap, rfl, hlc, hcm⟩ := hv.len
  obtain ⟨ad, capd, rfl, hdc, hdm⟩ := hd.len
  obtain ⟨am, capm, rfl, hmc, hmm⟩ := hm.len
  unfold maxLen at hcm hdm hmm
  have V : Aside (Strs w (.slice a ts.length cap) ts ∧ (∀ t ∈ ts, t.size ≤ 140737488355328) ∧ Bytes w (.slice ad d.length capd) d ∧ Bytes w (.slice am m.length capm) m) := ⟨hv, hts.1, hd, hm⟩
  have hn := hts.2
  clear hv hts hd hm
  go_enter Try.func4, Try.ntmps4
  go_wp2_with fail
  refine (fixed_any w).mono ?_
  rintro e w1 ⟨rfl, hb⟩
  have B1 : Aside (Below w.heap.size w w1) := hb
  clear hb
  go_wp2_with fail
  go_loopg [8, 9] ts.length (fun g ss si wr => ∃ (k : Nat) (q : Int), k ≤ ts.length ∧ g = ts.length - k ∧ si = .int .i64 k ∧ ss = .int .i64 q ∧ (ts.length ≤ 4096 → q = tsum (ts.take k)) ∧ wr = w1)
  case atStart => exact ⟨0, 2, Nat.zero_le _, rfl, rfl, rfl, fun _ => rfl, rfl⟩
  case round =>
    obtain ⟨k, q, hk, hg, rfl, rfl, hq, rfl⟩ := hrel
    have R : Aside (gk = ts.length - k ∧ (ts.length ≤ 4096 → q = tsum (ts.take k))) := ⟨hg, hq⟩
    clear hg hq
    by_cases hlt : k < ts.length
    · obtain ⟨b, off, rfl, p0⟩ := (V.out.1.below B1.out).at k hlt
      obtain ⟨t, ht⟩ : ∃ t, t = ts.getD k ⟨#[]⟩ := ⟨_, rfl⟩
      rw [← ht] at p0
      have T : Aside (t = ts.getD k ⟨#[]⟩) := ht
      have tl : t.size ≤ 140737488355328 := V.out.2.1 t (by rw [ht]; simp [List.getD, hlt])
      clear ht
      by_cases hsm : ts.length ≤ 4096
      · have hqb : 0 ≤ q ∧ q ≤ 2 + 4096 * 140737488355338 := by
          have h1 := R.out.2 hsm
          have h2 := tsum_le (ts.take k) (fun t ht => V.out.2.1 t (List.mem_of_mem_take ht))
          have h3 : (ts.take k).length ≤ 4096 := by rw [List.length_take]; omega
          have h4 : (ts.take k).length * 140737488355338 ≤ 4096 * 140737488355338 := Nat.mul_le_mul_right _ h3
          omega
        obtain ⟨q0, q1⟩ := hqb
        go_wp2_with fail
        go_roundg (ts.length - (k + 1))
        case measure => have := R.out.1; omega
        case rel =>
          refine ⟨k + 1, _, by omega, rfl, by go_num, rfl, fun h => ?_, rfl⟩
          rw [tsum_take ts k hlt, ← T.out, R.out.2 h]
          push_cast; omega
      · go_wp2_with fail
        go_roundg (ts.length - (k + 1))
        case measure => have := R.out.1; omega
        case rel => exact ⟨k + 1, _, by omega, rfl, by go_num, rfl, fun h => absurd h hsm, rfl⟩
    · have RQ : Aside (ts.length ≤ 4096 → q = tsum ts) := by
        have := R.out.2; rw [List.take_of_length_le (by omega)] at this; exact this
      by_cases hsm : ts.length ≤ 4096
      · have hsm' : (ts.length : Int) ≤ 4096 := by omega
        have hqe := RQ.out hsm
        subst hqe
        by_cases hsu : tsum ts ≤ 1048576
        · have hsu' : (tsum ts : Int) ≤ 1048576 := by omega
          obtain ⟨tl1, tl2⟩ := tsum_bound ts hsm V.out.2.1 hsu
          have TL : Aside ((tlist ts).length ≤ 1048576 ∧ (∀ t ∈ ts, t.size ≤ 1048576) ∧ ts.length ≤ 4096) := ⟨tl1, tl2, hsm⟩
          clear tl1 tl2
          go_wp2_with fail
          refine (ownTexts_any _ ts wr (V.out.1.below B1.out) hn).mono ?_
          rintro e w2 ⟨v2, rfl, ho, hb⟩
          have B2 : Aside (Below w.heap.size w w2 ∧ Strs w2 v2 ts) := ⟨B1.out.trans (hb.mono B1.out.size), ho.strs⟩
          clear ho hb
          go_wp2_with fail
          refine (texts_any v2 ts w2 B2.out.2 V.out.2.1).mono ?_
          rintro e w3 ⟨v3, rfl, ho, hb⟩
          have et := txs_ok ts TL.out.2.2 TL.out.1
          rw [et] at ho ⊢
          have ho' : Own w2.heap.size w3 v3 (tlist ts) := ho
          have B3 : Aside (Below w.heap.size w w3 ∧ Bytes w3 v3 (tlist ts)) := ⟨B2.out.1.trans (hb.mono B2.out.1.size), ho'.bytes⟩
          clear ho ho' hb et
          go_wp2_with fail
          refine (own_any v3 (tlist ts) w3 B3.out.2 (by have := TL.out.1; omega)).mono ?_
          rintro e w4 ⟨v4, rfl, ho, hb⟩
          have B4 : Aside (Below w.heap.size w w4 ∧ Bytes w4 v4 (tlist ts) ∧ Bytes w4 v3 (tlist ts)) := ⟨B3.out.1.trans (hb.mono B3.out.1.size), ho.bytes, B3.out.2.below hb⟩
          clear ho hb
          go_wp2_with fail
          refine (untexts_any v4 (tlist ts) w4 B4.out.2.1).mono ?_
          rintro e w5 ⟨v5, rfl, ho, hb⟩
          have ub := untE_back ts [] TL.out.2.2 TL.out.2.1 TL.out.1
          rw [List.append_nil] at ub
          rw [ub.1.2 rfl]
          rw [ub.2 rfl] at ho
          have B5 : Aside (Below w.heap.size w w5 ∧ Strs w5 v5 ts ∧ Bytes w5 v3 (tlist ts)) := ⟨B4.out.1.trans (hb.mono B4.out.1.size), ho.strs, B4.out.2.2.below hb⟩
          clear ho hb ub
          go_wp2_with fail
          refine (sameTexts_yes _ v5 ts w5 (V.out.1.below B5.out.1) B5.out.2.1).mono ?_
          rintro e w6 ⟨rfl, hb⟩
          have B6 : Aside (Below w.heap.size w w6 ∧ Bytes w6 v3 (tlist ts)) := ⟨B5.out.1.trans (hb.mono B5.out.1.size), B5.out.2.2.below hb⟩
          clear hb
          go_wp2_with fail
          refine (own_any v3 (tlist ts) w6 B6.out.2 (by have := TL.out.1; omega)).mono ?_
          rintro e w7 ⟨v7, rfl, ho, hb⟩
          have B7 : Aside (Below w.heap.size w w7) := B6.out.1.trans (hb.mono B6.out.1.size)
          have O7 : Hid (Own w6.heap.size w7 v7 (tlist ts)) := ho
          have S7 : Hid (w6.heap.size ≤ w7.heap.size) := hb.size
          have M7 : Hid (Bytes w7 (.slice am m.length capm) m) := V.out.2.2.2.below B7.out
          clear ho hb
          go_wp2_with (at_builtin; refine app_wide (v := v7) (u := .slice am m.length capm) rfl _ _ rfl rfl O7.out S7.out rfl M7.out ?hl1 ?_)
          case hl1 => have := TL.out.1; omega
          intro v8 w8 h1 h2
          have B8 : Aside (Below w.heap.size w w8 ∧ Bytes w8 v8 (tlist ts ++ m)) := ⟨B7.out.trans ((grown_below h2 O7.out S7.out).mono B6.out.1.size), h1.bytes⟩
          clear h1 h2 O7 S7 M7
          go_wp2_with fail
          refine (untexts_any v8 (tlist ts ++ m) w8 B8.out.2).mono ?_
          rintro e w9 ⟨v9, rfl, ho, hb⟩
          have ub := (untE_back ts m TL.out.2.2 TL.out.2.1 TL.out.1).1
          obtain ⟨z, hz⟩ : ∃ z, z = untE (tlist ts ++ m) := ⟨_, rfl⟩
          rw [← hz] at ub ⊢
          have B9 : Aside (Below w.heap.size w w9) := B8.out.1.trans (hb.mono B8.out.1.size)
          clear ho hb hz
          by_cases hm0 : m.length = 0
          · have hz0 := ub.2 hm0
            subst hz0
            have hm0' : (m.length : Int) = 0 := by omega
            clear ub
            go_wp2_with fail
            refine (own_any _ d w9 (V.out.2.2.1.below B9.out) (by omega)).mono ?_
            rintro e x1 ⟨u1, rfl, ho1, hb1⟩
            have X1 : Aside (Bytes x1 u1 d ∧ Below w.heap.size w x1) := ⟨ho1.bytes, (B9.out).trans (hb1.mono (B9.out).size)⟩
            clear ho1 hb1
            go_wp2_with fail
            refine (untexts_any u1 d x1 X1.out.1).mono ?_
            rintro e x2 ⟨u2, rfl, ho2, hb2⟩
            obtain ⟨a2, cap2, rfl, hc2, hm2⟩ := ho2.strs.len
            unfold maxLen at hm2
            have X2 : Aside (Strs x2 (.slice a2 (untT d).length cap2) (untT d) ∧ Below w.heap.size w x2) := ⟨ho2.strs, X1.out.2.trans (hb2.mono X1.out.2.size)⟩
            clear ho2 hb2
            by_cases he : untE d = 0
            · have he' : (untE d : Int) = 0 := by omega
              have F : Aside (d = tlist (untT d) ∧ (untT d).length ≤ 4096 ∧ d.length ≤ 1048576 ∧ ∀ t ∈ untT d, t.size ≤ 1048576) := unt_fwd d he
              clear he
              go_wp2_with fail
              refine (texts_any _ (untT d) x2 X2.out.1 (fun t ht => by have := F.out.2.2.2 t ht; omega)).mono ?_
              rintro e x3 ⟨u3, rfl, ho3, hb3⟩
              have et := txs_ok (untT d) F.out.2.1 (by rw [← F.out.1]; exact F.out.2.2.1)
              rw [et] at ho3 ⊢
              have X3 : Aside (Bytes x3 u3 d ∧ Below w.heap.size w x3) := ⟨by have h := ho3.bytes; rw [F.out.1]; exact h, X2.out.2.trans (hb3.mono X2.out.2.size)⟩
              clear ho3 hb3 et
              go_wp2_with fail
              refine (same_any _ _ d d x3 X3.out.1 (V.out.2.2.1.below X3.out.2)).mono ?_
              rintro e x3 ⟨rfl, rfl⟩
              rw [decide_eq_true rfl]
              go_wp2_with fail
              go_ret
              exact ⟨rfl, X3.out.2⟩
            · have he' : ¬ (untE d : Int) = 0 := by omega
              have eT : untT d = [] := by unfold untT; rw [if_neg he]
              rw [eT]
              clear he eT
              go_wp2_with fail
              go_ret
              exact ⟨rfl, X2.out.2⟩
          · have hz0 : ¬ z = 0 := fun h => hm0 (ub.1 h)
            have hz1 : ((z : Int) == 0) = false := by rw [beq_eq_false_iff_ne]; omega
            have hm1 : ((m.length : Int) == 0) = false := by rw [beq_eq_false_iff_ne]; omega
            clear ub hz0
            go_wp2_with fail
            refine (own_any _ d w9 (V.out.2.2.1.below B9.out) (by omega)).mono ?_
            rintro e x1 ⟨u1, rfl, ho1, hb1⟩
            have X1 : Aside (Bytes x1 u1 d ∧ Below w.heap.size w x1) := ⟨ho1.bytes, (B9.out).trans (hb1.mono (B9.out).size)⟩
            clear ho1 hb1
            go_wp2_with fail
            refine (untexts_any u1 d x1 X1.out.1).mono ?_
            rintro e x2 ⟨u2, rfl, ho2, hb2⟩
            obtain ⟨a2, cap2, rfl, hc2, hm2⟩ := ho2.strs.len
            unfold maxLen at hm2
            have X2 : Aside (Strs x2 (.slice a2 (untT d).length cap2) (untT d) ∧ Below w.heap.size w x2) := ⟨ho2.strs, X1.out.2.trans (hb2.mono X1.out.2.size)⟩
            clear ho2 hb2
            by_cases he : untE d = 0
            · have he' : (untE d : Int) = 0 := by omega
              have F : Aside (d = tlist (untT d) ∧ (untT d).length ≤ 4096 ∧ d.length ≤ 1048576 ∧ ∀ t ∈ untT d, t.size ≤ 1048576) := unt_fwd d he
              clear he
              go_wp2_with fail
              refine (texts_any _ (untT d) x2 X2.out.1 (fun t ht => by have := F.out.2.2.2 t ht; omega)).mono ?_
              rintro e x3 ⟨u3, rfl, ho3, hb3⟩
              have et := txs_ok (untT d) F.out.2.1 (by rw [← F.out.1]; exact F.out.2.2.1)
              rw [et] at ho3 ⊢
              have X3 : Aside (Bytes x3 u3 d ∧ Below w.heap.size w x3) := ⟨by have h := ho3.bytes; rw [F.out.1]; exact h, X2.out.2.trans (hb3.mono X2.out.2.size)⟩
              clear ho3 hb3 et
              go_wp2_with fail
              refine (same_any _ _ d d x3 X3.out.1 (V.out.2.2.1.below X3.out.2)).mono ?_
              rintro e x3 ⟨rfl, rfl⟩
              rw [decide_eq_true rfl]
              go_wp2_with fail
              go_ret
              exact ⟨rfl, X3.out.2⟩
            · have he' : ¬ (untE d : Int) = 0 := by omega
              have eT : untT d = [] := by unfold untT; rw [if_neg he]
              rw [eT]
              clear he eT
              go_wp2_with fail
              go_ret
              exact ⟨rfl, X2.out.2⟩
        · have hsu' : decide ((tsum ts : Int) ≤ 1048576) = false := by rw [decide_eq_false_iff_not]; omega
          go_wp2_with fail
          refine (own_any _ d wr (V.out.2.2.1.below B1.out) (by omega)).mono ?_
          rintro e x1 ⟨u1, rfl, ho1, hb1⟩
          have X1 : Aside (Bytes x1 u1 d ∧ Below w.heap.size w x1) := ⟨ho1.bytes, (B1.out).trans (hb1.mono (B1.out).size)⟩
          clear ho1 hb1
          go_wp2_with fail
          refine (untexts_any u1 d x1 X1.out.1).mono ?_
          rintro e x2 ⟨u2, rfl, ho2, hb2⟩
          obtain ⟨a2, cap2, rfl, hc2, hm2⟩ := ho2.strs.len
          unfold maxLen at hm2
          have X2 : Aside (Strs x2 (.slice a2 (untT d).length cap2) (untT d) ∧ Below w.heap.size w x2) := ⟨ho2.strs, X1.out.2.trans (hb2.mono X1.out.2.size)⟩
          clear ho2 hb2
          by_cases he : untE d = 0
          · have he' : (untE d : Int) = 0 := by omega
            have F : Aside (d = tlist (untT d) ∧ (untT d).length ≤ 4096 ∧ d.length ≤ 1048576 ∧ ∀ t ∈ untT d, t.size ≤ 1048576) := unt_fwd d he
            clear he
            go_wp2_with fail
            refine (texts_any _ (untT d) x2 X2.out.1 (fun t ht => by have := F.out.2.2.2 t ht; omega)).mono ?_
            rintro e x3 ⟨u3, rfl, ho3, hb3⟩
            have et := txs_ok (untT d) F.out.2.1 (by rw [← F.out.1]; exact F.out.2.2.1)
            rw [et] at ho3 ⊢
            have X3 : Aside (Bytes x3 u3 d ∧ Below w.heap.size w x3) := ⟨by have h := ho3.bytes; rw [F.out.1]; exact h, X2.out.2.trans (hb3.mono X2.out.2.size)⟩
            clear ho3 hb3 et
            go_wp2_with fail
            refine (same_any _ _ d d x3 X3.out.1 (V.out.2.2.1.below X3.out.2)).mono ?_
            rintro e x3 ⟨rfl, rfl⟩
            rw [decide_eq_true rfl]
            go_wp2_with fail
            go_ret
            exact ⟨rfl, X3.out.2⟩
          · have he' : ¬ (untE d : Int) = 0 := by omega
            have eT : untT d = [] := by unfold untT; rw [if_neg he]
            rw [eT]
            clear he eT
            go_wp2_with fail
            go_ret
            exact ⟨rfl, X2.out.2⟩
      · have hsm' : decide ((ts.length : Int) ≤ 4096) = false := by rw [decide_eq_false_iff_not]; omega
        go_wp2_with fail
        refine (own_any _ d wr (V.out.2.2.1.below B1.out) (by omega)).mono ?_
        rintro e x1 ⟨u1, rfl, ho1, hb1⟩
        have X1 : Aside (Bytes x1 u1 d ∧ Below w.heap.size w x1) := ⟨ho1.bytes, (B1.out).trans (hb1.mono (B1.out).size)⟩
        clear ho1 hb1
        go_wp2_with fail
        refine (untexts_any u1 d x1 X1.out.1).mono ?_
        rintro e x2 ⟨u2, rfl, ho2, hb2⟩
        obtain ⟨a2, cap2, rfl, hc2, hm2⟩ := ho2.strs.len
        unfold maxLen at hm2
        have X2 : Aside (Strs x2 (.slice a2 (untT d).length cap2) (untT d) ∧ Below w.heap.size w x2) := ⟨ho2.strs, X1.out.2.trans (hb2.mono X1.out.2.size)⟩
        clear ho2 hb2
        by_cases he : untE d = 0
        · have he' : (untE d : Int) = 0 := by omega
          have F : Aside (d = tlist (untT d) ∧ (untT d).length ≤ 4096 ∧ d.length ≤ 1048576 ∧ ∀ t ∈ untT d, t.size ≤ 1048576) := unt_fwd d he
          clear he
          go_wp2_with fail
          refine (texts_any _ (untT d) x2 X2.out.1 (fun t ht => by have := F.out.2.2.2 t ht; omega)).mono ?_
          rintro e x3 ⟨u3, rfl, ho3, hb3⟩
          have et := txs_ok (untT d) F.out.2.1 (by rw [← F.out.1]; exact F.out.2.2.1)
          rw [et] at ho3 ⊢
          have X3 : Aside (Bytes x3 u3 d ∧ Below w.heap.size w x3) := ⟨by have h := ho3.bytes; rw [F.out.1]; exact h, X2.out.2.trans (hb3.mono X2.out.2.size)⟩
          clear ho3 hb3 et
          go_wp2_with fail
          refine (same_any _ _ d d x3 X3.out.1 (V.out.2.2.1.below X3.out.2)).mono ?_
          rintro e x3 ⟨rfl, rfl⟩
          rw [decide_eq_true rfl]
          go_wp2_with fail
          go_ret
          exact ⟨rfl, X3.out.2⟩
        · have he' : ¬ (untE d : Int) = 0 := by omega
          have eT : untT d = [] := by unfold untT; rw [if_neg he]
          rw [eT]
          clear he eT
          go_wp2_with fail
          go_ret
          exact ⟨rfl, X2.out.2⟩
end Go.Proofs.Ytjnjliojkcnddaa
