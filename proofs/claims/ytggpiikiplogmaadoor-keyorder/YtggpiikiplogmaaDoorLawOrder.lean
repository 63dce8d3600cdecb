/-
  THE WALK of KeyOrder.
-/
import Derived.Test.YtggpiikiplogmaaDoorFixed
import Derived.Test.YtggpiikiplogmaaDoorAhead
namespace Go.Proofs.YtggpiikiplogmaaDoor
open Go.RowKit
set_option maxHeartbeats 8000000 in
set_option maxRecDepth 100000 in
theorem order_road (a b : Value) (ts us : List ByteArray) (c e f : Int) (x y : ByteArray) (p q s : Bool) (w : World) (hm : HasM w) (ha : Strs w a ts) (hb : Strs w b us) (h1 : (c == -1) = p) (h2 : (c == 1) = q) (h3 : (c == 0) = s)
    (hx : e = 0 → f = 0 → Op.bytesLess x.toList y.toList = p ∧ (x.toList == y.toList) = s)
    (OW : Hid (∀ v l W, Strs W v l → l = ts ∨ l = us → Calls Tryd.prog 12 #[v] W fun e w' => ∃ v', e = .returned v' ∧ OwnS W.heap.size w' v' l ∧ Below W.heap.size W w'))
    (CM : Hid (∀ v v' W, Strs W v ts → Strs W v' us → Calls Tryd.prog 17 #[v, v'] W fun e w' => e = .returned (.int .i64 c) ∧ Below W.heap.size W w'))
    (A1 : Hid (∀ v v' W, Strs W v ts → Strs W v' us → Calls Tryd.prog 18 #[v, v'] W fun e w' => e = .returned (.bool p) ∧ Below W.heap.size W w'))
    (A2 : Hid (∀ v v' W, Strs W v us → Strs W v' ts → Calls Tryd.prog 18 #[v, v'] W fun e w' => e = .returned (.bool q) ∧ Below W.heap.size W w'))
    (SM : Hid (∀ v v' W, Strs W v ts → Strs W v' us → Calls Tryd.prog 15 #[v, v'] W fun e w' => e = .returned (.bool s) ∧ Below W.heap.size W w'))
    (M1 : Hid (∀ v W, HasM W → Strs W v ts → Calls Tryd.prog 11 #[v] W fun r w' => r = .returned (.tuple #[.string x, .int .i64 e]) ∧ Below W.heap.size W w'))
    (M2 : Hid (∀ v W, HasM W → Strs W v us → Calls Tryd.prog 11 #[v] W fun r w' => r = .returned (.tuple #[.string y, .int .i64 f]) ∧ Below W.heap.size W w')) :
    Calls Tryd.prog 7 #[a, b] w fun e w' => e = .returned (.bool true) ∧ Below w.heap.size w w' := by
  have V : Hid (Strs w a ts ∧ Strs w b us) := ⟨ha, hb⟩
  have H := Lib.hid hm
  have X := Lib.hid hx
  clear ha hb hm hx
  go_enter Tryd.func7, Tryd.ntmps7
  go_wp2_with fail
  refine (fixed_ok w H.out).mono ?_
  rintro r w1 ⟨rfl, hb⟩
  have B1 := Lib.hid hb
  clear hb
  go_wp2_with fail
  refine (OW.out a ts w1 (V.out.1.below B1.out) (.inl rfl)).mono ?_
  rintro r w2 ⟨v2, rfl, o2, hb⟩
  have B2 := Lib.hid (B1.out.trans (hb.mono B1.out.size))
  have S2 := Lib.hid o2.strs
  clear hb o2 B1
  go_wp2_with fail
  refine (OW.out b us w2 (V.out.2.below B2.out) (.inr rfl)).mono ?_
  rintro r w3 ⟨v3, rfl, o3, hb⟩
  have B3 := Lib.hid (B2.out.trans (hb.mono B2.out.size))
  have S3 := Lib.hid (And.intro (S2.out.below hb) o3.strs)
  clear hb o3 B2 S2
  go_wp2_with fail
  refine (CM.out v2 v3 w3 S3.out.1 S3.out.2).mono ?_
  rintro r w4 ⟨rfl, hb⟩
  have B4 := Lib.hid (B3.out.trans (hb.mono B3.out.size))
  clear hb B3 S3
  go_wp2_with fail
  refine (A1.out a b w4 (V.out.1.below B4.out) (V.out.2.below B4.out)).mono ?_
  rintro r w5 ⟨rfl, hb⟩
  have B5 := Lib.hid (B4.out.trans (hb.mono B4.out.size))
  clear hb B4
  go_wp2_with fail
  refine (A2.out b a w5 (V.out.2.below B5.out) (V.out.1.below B5.out)).mono ?_
  rintro r w6 ⟨rfl, hb⟩
  have B6 := Lib.hid (B5.out.trans (hb.mono B5.out.size))
  clear hb B5
  go_wp2_with fail
  refine (SM.out a b w6 (V.out.1.below B6.out) (V.out.2.below B6.out)).mono ?_
  rintro r w7 ⟨rfl, hb⟩
  have B7 := Lib.hid (B6.out.trans (hb.mono B6.out.size))
  clear hb B6
  go_wp2_with fail
  refine (OW.out a ts w7 (V.out.1.below B7.out) (.inl rfl)).mono ?_
  rintro r w8 ⟨v8, rfl, o8, hb⟩
  have B8 := Lib.hid (B7.out.trans (hb.mono B7.out.size))
  have S8 := Lib.hid o8.strs
  clear hb o8 B7
  go_wp2_with fail
  refine (M1.out v8 w8 (H.out.below B8.out) S8.out).mono ?_
  rintro r w9 ⟨rfl, hb⟩
  have B9 := Lib.hid (B8.out.trans (hb.mono B8.out.size))
  clear hb B8 S8
  go_wp2_with fail
  refine (OW.out b us w9 (V.out.2.below B9.out) (.inr rfl)).mono ?_
  rintro r w10 ⟨v10, rfl, o10, hb⟩
  have B10 := Lib.hid (B9.out.trans (hb.mono B9.out.size))
  have S10 := Lib.hid o10.strs
  clear hb o10 B9
  go_wp2_with fail
  refine (M2.out v10 w10 (H.out.below B10.out) S10.out).mono ?_
  rintro r w11 ⟨rfl, hb⟩
  have B11 := Lib.hid (B10.out.trans (hb.mono B10.out.size))
  clear hb B10 S10
  by_cases he : e = 0
  · subst he
    by_cases hf : f = 0
    · subst hf
      obtain ⟨x1, x2⟩ := X.out rfl rfl
      go_wp2_with fail
      refine (A1.out a b w11 (V.out.1.below B11.out) (V.out.2.below B11.out)).mono ?_
      rintro r w12 ⟨rfl, hb⟩
      have B12 := Lib.hid (B11.out.trans (hb.mono B11.out.size))
      clear hb B11
      go_wp2_with fail
      refine (SM.out a b w12 (V.out.1.below B12.out) (V.out.2.below B12.out)).mono ?_
      rintro r w13 ⟨rfl, hb⟩
      have B13 := Lib.hid (B12.out.trans (hb.mono B12.out.size))
      clear hb B12
      go_wp2_with fail
      go_ret
      exact ⟨rfl, B13.out⟩
    · have gf : (f != 0) = true := bne_iff_ne.2 hf
      clear hf
      go_wp2_with fail
      go_ret
      exact ⟨rfl, B11.out⟩
  · have ge : (e != 0) = true := bne_iff_ne.2 he
    clear he
    go_wp2_with fail
    go_ret
    exact ⟨rfl, B11.out⟩
theorem keyOrder_walk (a : Value) (ts : List ByteArray) (b : Value) (us : List ByteArray) (w : World) (hm : HasM w) (ha : Strs w a ts) (sa : (∀ t ∈ ts, t.size ≤ 140737488355328) ∧ ts.length ≤ 8796093021952) (hb : Strs w b us) (sb : (∀ t ∈ us, t.size ≤ 140737488355328) ∧ us.length ≤ 8796093021952) :
    Calls Tryd.prog 7 #[a, b] w fun e w' => e = .returned (.bool true) ∧ Below w.heap.size w w' := by
  refine order_road a b ts us (cmpR ts us) (makeR ts).2 (makeR us).2 (makeR ts).1 (makeR us).1 (aheadB ts us) (aheadB us ts) (decide (ts = us)) w hm ha hb ?_ ?_ ?_ ?_
    (Lib.hid fun v l W h hl => own_any v l W h (by rcases hl with rfl | rfl; exact sa.2; exact sb.2))
    (Lib.hid fun v v' W h h' => compare_any v v' ts us W h h')
    (Lib.hid fun v v' W h h' => ahead_any v v' ts us W h h')
    (Lib.hid fun v v' W h h' => ahead_any v v' us ts W h h')
    (Lib.hid fun v v' W h h' => same_any v v' ts us W h h')
    (Lib.hid fun v W h hv => make_any v ts W h hv sa.1)
    (Lib.hid fun v W h hv => make_any v us W h hv sb.1)
  · unfold cmpR
    cases h : aheadB ts us with
    | true => rfl
    | false =>
      rw [if_neg (by simp)]
      split <;> rfl
  · unfold cmpR
    cases h : aheadB ts us with
    | true =>
      cases h2 : aheadB us ts with
      | false => rfl
      | true =>
        rw [← key_order] at h h2
        rw [bl_asymm _ _ h] at h2
        cases h2
    | false =>
      rw [if_neg (by simp)]
      split
      · rename_i e
        rw [e, ahead_refl]; rfl
      · rename_i e
        cases h2 : aheadB us ts with
        | true => rfl
        | false => exact absurd (ahead_total _ _ h h2) e
  · unfold cmpR
    cases h : aheadB ts us with
    | true =>
      rw [decide_eq_false (fun e => by rw [e, ahead_refl] at h; cases h)]; rfl
    | false =>
      rw [if_neg (by simp)]
      split
      · rename_i e; rw [decide_eq_true e]; rfl
      · rename_i e; rw [decide_eq_false e]; rfl
  · intro he hf
    have e1 : makeR ts = ((makeR ts).1, 0) := by rw [← he]
    have e2 : makeR us = ((makeR us).1, 0) := by rw [← hf]
    obtain ⟨_, _, _, k1⟩ := make_ok e1
    obtain ⟨_, _, _, k2⟩ := make_ok e2
    rw [k1, k2, list_of_bytes, list_of_bytes, data_bytesOf, data_bytesOf]
    refine ⟨key_order ts us, ?_⟩
    by_cases h : ts = us
    · rw [h]; simp
    · rw [decide_eq_false h, beq_eq_false_iff_ne]
      exact fun e => h (key_inj _ _ e)
end Go.Proofs.YtggpiikiplogmaaDoor
