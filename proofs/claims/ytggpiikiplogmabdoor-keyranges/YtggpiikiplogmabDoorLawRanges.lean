/-
  THE WALK of KeyRanges.
-/
import Derived.Test.YtggpiikiplogmabDoorRangeA
namespace Go.Proofs.YtggpiikiplogmabDoor
open Go.RowKit
theorem le_not (x y : List UInt8) : (bl x y || (x == y)) = !(bl y x) := by
  cases h : bl y x with
  | true =>
    have h1 := bl_asymm _ _ h
    have h2 : (x == y) = false := by
      rw [beq_eq_false_iff_ne]
      intro e
      rw [e, bl_refl] at h
      cases h
    show (bl x y || (x == y)) = false
    rw [h1, h2]; rfl
  | false =>
    cases h1 : bl x y with
    | true => rfl
    | false =>
      have := bl_total _ _ h1 h
      rw [this]; simp
theorem le_form (x y : ByteArray) : (Op.bytesLess x.toList y.toList || (x.toList == y.toList)) = !(bl y.data.toList x.data.toList) := by
  rw [list_of_bytes, list_of_bytes]; exact le_not _ _
set_option maxHeartbeats 16000000 in
set_option maxRecDepth 100000 in
theorem ranges_road (vt vp vo : Value) (ts ps os : List ByteArray) (k x y x2 y2 : ByteArray) (e f h : Int) (b1 b2 c1 c2 d1 : Bool) (w : World) (hm : HasM w) (ht : Strs w vt ts) (hp : Strs w vp ps) (ho : Strs w vo os)
    (F0 : f ≠ 0 → x = ⟨#[]⟩ ∧ y = ⟨#[]⟩) (F1 : f = 0 → Op.bytesLess x.toList y.toList = true) (E1 : e = 0 → f = 0 → (Op.bytesLess x.toList k.toList || (x.toList == k.toList)) = b1 ∧ Op.bytesLess k.toList y.toList = b2)
    (A1 : (Op.bytesLess y.toList x2.toList || (y.toList == x2.toList)) = d1) (A2 : f = 0 → h = 0 → c1 = false → c2 = false → d1 = false → (Op.bytesLess y2.toList x.toList || (y2.toList == x.toList)) = true)
    (OW : Hid (∀ v l W, Strs W v l → l = ts ∨ l = ps ∨ l = os → Calls Tryd.prog 9 #[v] W fun e w' => ∃ v', e = .returned v' ∧ OwnS W.heap.size w' v' l ∧ Below W.heap.size W w'))
    (MT : Hid (∀ v W, HasM W → Strs W v ts → Calls Tryd.prog 8 #[v] W fun r w' => r = .returned (.tuple #[.string k, .int .i64 e]) ∧ Below W.heap.size W w'))
    (MP : Hid (∀ v W, HasM W → Strs W v ps → Calls Tryd.prog 8 #[v] W fun r w' => r = .returned (.tuple #[.string x, .int .i64 f]) ∧ Below W.heap.size W w'))
    (RP : Hid (∀ v W, HasM W → Strs W v ps → Calls Tryd.prog 10 #[v] W fun r w' => r = .returned (.tuple #[.string x, .string y, .int .i64 f]) ∧ Below W.heap.size W w'))
    (RO : Hid (∀ v W, HasM W → Strs W v os → Calls Tryd.prog 10 #[v] W fun r w' => r = .returned (.tuple #[.string x2, .string y2, .int .i64 h]) ∧ Below W.heap.size W w'))
    (BT : Hid (e = 0 → f = 0 → ∀ v v' W, Strs W v ts → Strs W v' ps → Calls Tryd.prog 11 #[v, v'] W fun r w' => r = .returned (.bool (b1 && b2)) ∧ Below W.heap.size W w'))
    (BO : Hid (∀ v v' W, Strs W v ps → Strs W v' os → Calls Tryd.prog 11 #[v, v'] W fun r w' => r = .returned (.bool c1) ∧ Below W.heap.size W w'))
    (BP : Hid (∀ v v' W, Strs W v os → Strs W v' ps → Calls Tryd.prog 11 #[v, v'] W fun r w' => r = .returned (.bool c2) ∧ Below W.heap.size W w')) :
    Calls Tryd.prog 3 #[vt, vp, vo] w fun e w' => e = .returned (.bool true) ∧ Below w.heap.size w w' := by
  have V : Hid (Strs w vt ts ∧ Strs w vp ps ∧ Strs w vo os) := ⟨ht, hp, ho⟩
  have H := Lib.hid hm
  have FX := Lib.hid (fixed_ok w hm)
  have XF0 := Lib.hid F0
  have XF1 := Lib.hid F1
  have XE1 := Lib.hid E1
  have XA1 := Lib.hid A1
  have XA2 := Lib.hid A2
  have ff : (f != f) = false := by simp
  clear ht hp ho hm F0 F1 E1 A1 A2
  go_enter Tryd.func3, Tryd.ntmps3
  go_wp2_with fail
  refine FX.out.mono ?_
  rintro r w1 ⟨rfl, hb⟩
  have B1 := Lib.hid hb
  clear hb FX
  go_wp2_with fail
  refine (OW.out vt ts w1 (V.out.1.below B1.out) (.inl rfl)).mono ?_
  rintro r w2 ⟨v2, rfl, o2, hb⟩
  have B2 := Lib.hid (B1.out.trans (hb.mono B1.out.size))
  have S2 := Lib.hid o2.strs
  clear hb o2 B1
  go_wp2_with fail
  refine (MT.out v2 w2 (H.out.below B2.out) S2.out).mono ?_
  rintro r w3 ⟨rfl, hb⟩
  have B3 := Lib.hid (B2.out.trans (hb.mono B2.out.size))
  clear hb B2 S2
  go_wp2_with fail
  refine (OW.out vp ps w3 (V.out.2.1.below B3.out) (.inr (.inl rfl))).mono ?_
  rintro r w4 ⟨v4, rfl, o4, hb⟩
  have B4 := Lib.hid (B3.out.trans (hb.mono B3.out.size))
  have S4 := Lib.hid o4.strs
  clear hb o4 B3
  go_wp2_with fail
  refine (RP.out v4 w4 (H.out.below B4.out) S4.out).mono ?_
  rintro r w5 ⟨rfl, hb⟩
  have B5 := Lib.hid (B4.out.trans (hb.mono B4.out.size))
  clear hb B4 S4
  go_wp2_with fail
  refine (OW.out vp ps w5 (V.out.2.1.below B5.out) (.inr (.inl rfl))).mono ?_
  rintro r w6 ⟨v6, rfl, o6, hb⟩
  have B6 := Lib.hid (B5.out.trans (hb.mono B5.out.size))
  have S6 := Lib.hid o6.strs
  clear hb o6 B5
  go_wp2_with fail
  refine (MP.out v6 w6 (H.out.below B6.out) S6.out).mono ?_
  rintro r w7 ⟨rfl, hb⟩
  have B7 := Lib.hid (B6.out.trans (hb.mono B6.out.size))
  clear hb B6 S6
  by_cases hf : f = 0
  · subst hf
    have xx := eqB x x rfl
    have xy := XF1.out rfl
    by_cases he : e = 0
    · subst he
      obtain ⟨q1, q2⟩ := XE1.out rfl rfl
      have BT2 := Lib.hid (BT.out rfl rfl)
      clear BT
      cases b1 with
      | true =>
        have BT3 : Hid (∀ v v' W, Strs W v ts → Strs W v' ps → Calls Tryd.prog 11 #[v, v'] W fun r w' => r = .returned (.bool b2) ∧ Below W.heap.size W w') := by
          have := BT2
          rw [Bool.true_and] at this
          exact this
        go_wp2_with fail
        refine (BT3.out vt vp w7 (V.out.1.below B7.out) (V.out.2.1.below B7.out)).mono ?_
        rintro r w8 ⟨rfl, hb⟩
        have B8 := Lib.hid (B7.out.trans (hb.mono B7.out.size))
        clear hb B7 q1 q2
        go_wp2_with fail
        refine (OW.out vo os w8 (V.out.2.2.below B8.out) (.inr (.inr rfl))).mono ?_
        rintro r y1 ⟨z1, rfl, t1, hb⟩
        have D1 := Lib.hid (B8.out.trans (hb.mono B8.out.size))
        have S1 := Lib.hid t1.strs
        clear hb t1 B8
        go_wp2_with fail
        refine (RO.out z1 y1 (H.out.below D1.out) S1.out).mono ?_
        rintro r y3 ⟨rfl, hb⟩
        have D2 := Lib.hid (D1.out.trans (hb.mono D1.out.size))
        clear hb D1 S1
        by_cases hh : h = 0
        · subst hh
          go_wp2_with fail
          refine (BO.out vp vo y3 (V.out.2.1.below D2.out) (V.out.2.2.below D2.out)).mono ?_
          rintro r y4 ⟨rfl, hb⟩
          have D3 := Lib.hid (D2.out.trans (hb.mono D2.out.size))
          clear hb D2
          cases c1 with
          | true =>
            go_wp2_with fail
            go_ret
            exact ⟨rfl, D3.out⟩
          | false =>
            go_wp2_with fail
            refine (BP.out vo vp y4 (V.out.2.2.below D3.out) (V.out.2.1.below D3.out)).mono ?_
            rintro r y5 ⟨rfl, hb⟩
            have D4 := Lib.hid (D3.out.trans (hb.mono D3.out.size))
            clear hb D3
            cases c2 with
            | true =>
              go_wp2_with fail
              go_ret
              exact ⟨rfl, D4.out⟩
            | false =>
              have a1 := XA1.out
              cases d1 with
              | true =>
                go_wp2_with fail
                go_ret
                exact ⟨rfl, D4.out⟩
              | false =>
                have a2 := XA2.out (by simp) (by simp) (by simp) (by simp) (by simp)
                go_wp2_with fail
                go_ret
                exact ⟨rfl, D4.out⟩
        · have gh : (h != 0) = true := bne_iff_ne.2 hh
          clear hh
          go_wp2_with fail
          go_ret
          exact ⟨rfl, D2.out⟩
      | false =>
        have BT3 : Hid (∀ v v' W, Strs W v ts → Strs W v' ps → Calls Tryd.prog 11 #[v, v'] W fun r w' => r = .returned (.bool false) ∧ Below W.heap.size W w') := by
          have := BT2
          rw [Bool.false_and] at this
          exact this
        go_wp2_with fail
        refine (BT3.out vt vp w7 (V.out.1.below B7.out) (V.out.2.1.below B7.out)).mono ?_
        rintro r w8 ⟨rfl, hb⟩
        have B8 := Lib.hid (B7.out.trans (hb.mono B7.out.size))
        clear hb B7 q1 q2
        go_wp2_with fail
        refine (OW.out vo os w8 (V.out.2.2.below B8.out) (.inr (.inr rfl))).mono ?_
        rintro r y1 ⟨z1, rfl, t1, hb⟩
        have D1 := Lib.hid (B8.out.trans (hb.mono B8.out.size))
        have S1 := Lib.hid t1.strs
        clear hb t1 B8
        go_wp2_with fail
        refine (RO.out z1 y1 (H.out.below D1.out) S1.out).mono ?_
        rintro r y3 ⟨rfl, hb⟩
        have D2 := Lib.hid (D1.out.trans (hb.mono D1.out.size))
        clear hb D1 S1
        by_cases hh : h = 0
        · subst hh
          go_wp2_with fail
          refine (BO.out vp vo y3 (V.out.2.1.below D2.out) (V.out.2.2.below D2.out)).mono ?_
          rintro r y4 ⟨rfl, hb⟩
          have D3 := Lib.hid (D2.out.trans (hb.mono D2.out.size))
          clear hb D2
          cases c1 with
          | true =>
            go_wp2_with fail
            go_ret
            exact ⟨rfl, D3.out⟩
          | false =>
            go_wp2_with fail
            refine (BP.out vo vp y4 (V.out.2.2.below D3.out) (V.out.2.1.below D3.out)).mono ?_
            rintro r y5 ⟨rfl, hb⟩
            have D4 := Lib.hid (D3.out.trans (hb.mono D3.out.size))
            clear hb D3
            cases c2 with
            | true =>
              go_wp2_with fail
              go_ret
              exact ⟨rfl, D4.out⟩
            | false =>
              have a1 := XA1.out
              cases d1 with
              | true =>
                go_wp2_with fail
                go_ret
                exact ⟨rfl, D4.out⟩
              | false =>
                have a2 := XA2.out (by simp) (by simp) (by simp) (by simp) (by simp)
                go_wp2_with fail
                go_ret
                exact ⟨rfl, D4.out⟩
        · have gh : (h != 0) = true := bne_iff_ne.2 hh
          clear hh
          go_wp2_with fail
          go_ret
          exact ⟨rfl, D2.out⟩
    · have ge : (e == 0) = false := beq_eq_false_iff_ne.2 he
      clear he
      go_wp2_with fail
      refine (OW.out vo os w7 (V.out.2.2.below B7.out) (.inr (.inr rfl))).mono ?_
      rintro r y1 ⟨z1, rfl, t1, hb⟩
      have D1 := Lib.hid (B7.out.trans (hb.mono B7.out.size))
      have S1 := Lib.hid t1.strs
      clear hb t1 B7
      go_wp2_with fail
      refine (RO.out z1 y1 (H.out.below D1.out) S1.out).mono ?_
      rintro r y3 ⟨rfl, hb⟩
      have D2 := Lib.hid (D1.out.trans (hb.mono D1.out.size))
      clear hb D1 S1
      by_cases hh : h = 0
      · subst hh
        go_wp2_with fail
        refine (BO.out vp vo y3 (V.out.2.1.below D2.out) (V.out.2.2.below D2.out)).mono ?_
        rintro r y4 ⟨rfl, hb⟩
        have D3 := Lib.hid (D2.out.trans (hb.mono D2.out.size))
        clear hb D2
        cases c1 with
        | true =>
          go_wp2_with fail
          go_ret
          exact ⟨rfl, D3.out⟩
        | false =>
          go_wp2_with fail
          refine (BP.out vo vp y4 (V.out.2.2.below D3.out) (V.out.2.1.below D3.out)).mono ?_
          rintro r y5 ⟨rfl, hb⟩
          have D4 := Lib.hid (D3.out.trans (hb.mono D3.out.size))
          clear hb D3
          cases c2 with
          | true =>
            go_wp2_with fail
            go_ret
            exact ⟨rfl, D4.out⟩
          | false =>
            have a1 := XA1.out
            cases d1 with
            | true =>
              go_wp2_with fail
              go_ret
              exact ⟨rfl, D4.out⟩
            | false =>
              have a2 := XA2.out (by simp) (by simp) (by simp) (by simp) (by simp)
              go_wp2_with fail
              go_ret
              exact ⟨rfl, D4.out⟩
      · have gh : (h != 0) = true := bne_iff_ne.2 hh
        clear hh
        go_wp2_with fail
        go_ret
        exact ⟨rfl, D2.out⟩
  · obtain ⟨rfl, rfl⟩ := XF0.out hf
    have ee : ((⟨#[]⟩ : ByteArray).toList == (⟨#[]⟩ : ByteArray).toList) = true := eqB _ _ rfl
    have gf : (f != 0) = true := bne_iff_ne.2 hf
    clear hf
    go_wp2_with fail
    go_ret
    exact ⟨rfl, B7.out⟩
theorem keyRanges_walk (vt : Value) (ts : List ByteArray) (vp : Value) (ps : List ByteArray) (vo : Value) (os : List ByteArray) (w : World) (hm : HasM w) (ht : Strs w vt ts) (st : (∀ t ∈ ts, t.size ≤ 140737488355328) ∧ ts.length ≤ 8796093021952)
    (hp : Strs w vp ps) (sp : (∀ t ∈ ps, t.size ≤ 140737488355328) ∧ ps.length ≤ 8796093021952) (ho : Strs w vo os) (so : (∀ t ∈ os, t.size ≤ 140737488355328) ∧ os.length ≤ 8796093021952) :
    Calls Tryd.prog 3 #[vt, vp, vo] w fun e w' => e = .returned (.bool true) ∧ Below w.heap.size w w' := by
  have r3 : ∀ ls : List ByteArray, (rangeR ls).2.2 = (makeR ls).2 := fun ls => by
    unfold rangeR
    split
    · rename_i h; rw [h]
    · rfl
  have mk0 : ∀ ls : List ByteArray, (makeR ls).2 = 0 → ls ≠ [] ∧ (makeR ls).1 = bytesOf (keyL ls) ∧ rangeR ls = (bytesOf (keyL ls), txt (toL ls), 0) := fun ls h => by
    have e1 : makeR ls = ((makeR ls).1, 0) := by rw [← h]
    obtain ⟨h1, _, _, h2⟩ := make_ok e1
    exact ⟨h1, h2, by rw [range_ok e1, h2]⟩
  have ma : ∀ v ls W, HasM W → Strs W v ls → (∀ t ∈ ls, t.size ≤ 140737488355328) → Calls Tryd.prog 8 #[v] W fun r w' => r = .returned (.tuple #[.string (makeR ls).1, .int .i64 (makeR ls).2]) ∧ Below W.heap.size W w' := fun v ls W h hv hs => make_any v ls W h hv hs
  by_cases hf : (makeR ps).2 = 0
  · obtain ⟨p1, p2, p3⟩ := mk0 ps hf
    refine ranges_road vt vp vo ts ps os (makeR ts).1 (bytesOf (keyL ps)) (txt (toL ps)) (rangeR os).1 (rangeR os).2.1 (makeR ts).2 0 (makeR os).2
      (!(bl (makeR ts).1.data.toList (keyL ps))) (bl (makeR ts).1.data.toList (toL ps)) (begB os ps) (begB ps os) (!(bl (rangeR os).1.data.toList (toL ps))) w hm ht hp ho
      (fun h => absurd rfl h) (fun _ => ?_) (fun _ _ => ⟨?_, ?_⟩) ?_ (fun _ h0 hc1 hc2 hd => ?_)
      (Lib.hid fun v l W h hl => own_any v l W h (by rcases hl with rfl | rfl | rfl; exact st.2; exact sp.2; exact so.2))
      (Lib.hid fun v W h hv => ma v ts W h hv st.1)
      (Lib.hid fun v W h hv => by have := ma v ps W h hv sp.1; rw [p2, hf] at this; exact this)
      (Lib.hid fun v W h hv => by have := range_any v ps W h hv sp.1; rw [p3] at this; exact this)
      (Lib.hid fun v W h hv => by have := range_any v os W h hv so.1; rw [r3] at this; exact this)
      (Lib.hid fun h0 _ v v' W h h' => by
        have := begins_any v v' ts ps W h h'
        rw [← in_range ps ts p1, ← data_bytesOf (keyL ts), ← (mk0 ts h0).2.1] at this
        exact this)
      (Lib.hid fun v v' W h h' => begins_any v v' ps os W h h')
      (Lib.hid fun v v' W h h' => begins_any v v' os ps W h h')
    · rw [list_of_bytes, list_of_bytes, data_bytesOf, txt_list]; exact from_to ps p1
    · rw [le_form, data_bytesOf]
    · rw [list_of_bytes, list_of_bytes, txt_list]
    · rw [le_form, txt_list]
    · obtain ⟨o1, _, o3⟩ := mk0 os h0
      rw [o3] at hd ⊢
      simp only [data_bytesOf] at hd
      rw [le_form, data_bytesOf, txt_list]
      rcases ranges_apart ps os hc2 hc1 with h | h
      · rw [bl_asymm _ _ h] at hd
        cases hd
      · rw [bl_asymm _ _ h]; rfl
  · have p3 : rangeR ps = (⟨#[]⟩, ⟨#[]⟩, (makeR ps).2) := by unfold rangeR; rw [if_neg hf]
    have p2 : makeR ps = (⟨#[]⟩, (makeR ps).2) := by
      unfold makeR at hf ⊢
      split
      · rfl
      · split
        · rfl
        · rename_i h1 h2
          rw [if_neg h1, if_neg h2] at hf
          exact absurd rfl hf
    refine ranges_road vt vp vo ts ps os (makeR ts).1 ⟨#[]⟩ ⟨#[]⟩ (rangeR os).1 (rangeR os).2.1 (makeR ts).2 (makeR ps).2 (makeR os).2
      true true (begB os ps) (begB ps os) (Op.bytesLess (⟨#[]⟩ : ByteArray).toList (rangeR os).1.toList || ((⟨#[]⟩ : ByteArray).toList == (rangeR os).1.toList)) w hm ht hp ho
      (fun _ => ⟨rfl, rfl⟩) (fun h => absurd h hf) (fun _ h => absurd h hf) rfl (fun h => absurd h hf)
      (Lib.hid fun v l W h hl => own_any v l W h (by rcases hl with rfl | rfl | rfl; exact st.2; exact sp.2; exact so.2))
      (Lib.hid fun v W h hv => ma v ts W h hv st.1)
      (Lib.hid fun v W h hv => by have := ma v ps W h hv sp.1; rw [congrArg Prod.fst p2] at this; exact this)
      (Lib.hid fun v W h hv => by have := range_any v ps W h hv sp.1; rw [p3] at this; exact this)
      (Lib.hid fun v W h hv => by have := range_any v os W h hv so.1; rw [r3] at this; exact this)
      (Lib.hid fun _ h => absurd h hf)
      (Lib.hid fun v v' W h h' => begins_any v v' ps os W h h')
      (Lib.hid fun v v' W h h' => begins_any v v' os ps W h h')
end Go.Proofs.YtggpiikiplogmabDoor
