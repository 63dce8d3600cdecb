/-
  ObjectPlaces.
-/
import Derived.Test.YtofjicjoohphcaaDoorObFx
import Derived.Test.YtofjicjoohphcaaDoorObHb
import Derived.Test.YtofjicjoohphcaaDoorObP
namespace Go.Proofs.YtofjicjoohphcaaDoor
open Go.RowKit
theorem letter_size (k : Int) : (letter k).size = 1 := by
  unfold letter
  repeat' split
  all_goals rfl
theorem letter_inj {a b : Int} (h1 : 0 ≤ a ∧ a ≤ 4) (h2 : 0 ≤ b ∧ b ≤ 4) (h : letter a = letter b) : a = b := by
  rw [← ix_letter a h1.1 h1.2, ← ix_letter b h2.1 h2.2, h]
theorem beg1 (a b p n : ByteArray) : K.begB [a] [b, p, n] = decide (a = b) := by
  by_cases h : a = b
  · rw [decide_eq_true h, K.begB_take]; simp [h]
  · rw [decide_eq_false h]
    cases q : K.begB [a] [b, p, n] with
    | false => rfl
    | true => rw [K.begB_take] at q; simp at q; exact absurd q.symm h
theorem beg2 (a b p q n : ByteArray) : K.begB [a, q] [b, p, n] = (decide (a = b) && decide (q = p)) := by
  by_cases h : a = b ∧ q = p
  · rw [decide_eq_true h.1, decide_eq_true h.2, Bool.and_self, K.begB_take]; simp [h.1, h.2]
  · have : (decide (a = b) && decide (q = p)) = false := by
      by_cases h1 : a = b
      · rw [decide_eq_false (fun h2 => h ⟨h1, h2⟩), Bool.and_false]
      · rw [decide_eq_false h1, Bool.false_and]
    rw [this]
    cases q2 : K.begB [a, q] [b, p, n] with
    | false => rfl
    | true => rw [K.begB_take] at q2; simp at q2; exact absurd ⟨q2.1.symm, q2.2.symm⟩ h
theorem beg3 (a p n : ByteArray) : K.begB [a, p, n] [a, p, n] = true := by rw [K.begB_take]; simp
theorem text_eq (a b : ByteArray) : (a.toList == b.toList) = decide (a = b) := by
  by_cases h : a = b
  · rw [h]; simp
  · rw [decide_eq_false h, beq_eq_false_iff_ne]; intro q; exact h (same_of_list q)
theorem lwithin_new (k : ByteArray) (ps : List ByteArray) (n : Nat) (cs : Array Value) (w : World) (hm : L.HasM w) (hc : cs = (ps.map Value.string).toArray) (hn : n = ps.length) (hl : ps.length ≤ maxLen) (hs : ∀ t ∈ ps, t.size ≤ 140737488355328) {r : Bool} (hr : wiB k ps = r) :
    Calls Tryd.prog 12 #[.string k, .slice (some ⟨w.heap.size, 0, none⟩) n n] (w.alloc (.cells cs 9)) fun e w' => e = .returned (.bool r) ∧ Below w.heap.size w w' := by
  have hb := K.below_built w (.cells cs 9)
  rw [← hr]
  exact (lwithin_any k _ ps _ (hm.below hb) (K.strs_built w ps cs n hc hn hl) hs).mono fun _ _ q => ⟨q.1, hb.trans (q.2.mono hb.size)⟩
set_option maxHeartbeats 20000000 in
set_option maxRecDepth 100000 in
theorem objectPlaces_walk (kind : Int) (path name : ByteArray) (other : Int) (path2 name2 text : ByteArray) (w : World) (hm : L.HasM w) (_hk : -9223372036854775808 ≤ kind ∧ kind ≤ 9223372036854775807) (hp : path.size ≤ 140737488351232) (hn : name.size ≤ 140737488351232)
    (_ho : -9223372036854775808 ≤ other ∧ other ≤ 9223372036854775807) (hp2 : path2.size ≤ 140737488351232) (hn2 : name2.size ≤ 140737488351232) (ht : text.size ≤ 140737488351232) :
    Calls Tryd.prog 4 #[.int .i64 kind, .string path, .string name, .int .i64 other, .string path2, .string name2, .string text] w fun e w' => e = .returned (.bool true) ∧ Below w.heap.size w w' := by
  have HM := Lib.hid hm
  have SZ : Hid (path.size ≤ 140737488355328 ∧ name.size ≤ 140737488355328 ∧ path2.size ≤ 140737488355328 ∧ name2.size ≤ 140737488355328 ∧ text.size ≤ 140737488355328) := Lib.hid ⟨by omega, by omega, by omega, by omega, by omega⟩
  clear hm hp hn hp2 hn2 ht
  go_enter Tryd.func4, Tryd.ntmps4
  go_wp2_with fail
  refine (fixed_any sameObject_yes w HM.out).mono ?_
  rintro e w1 ⟨rfl, hb⟩
  have B1 := Lib.hid hb
  clear hb
  go_wp2_with fail
  refine (key_any kind path name w1 (HM.out.below B1.out) SZ.out.1 SZ.out.2.1).mono ?_
  rintro e w2 ⟨rfl, hb⟩
  have B2 := Lib.hid (B1.out.trans (hb.mono B1.out.size))
  obtain ⟨A, hA⟩ : ∃ A, A = (keyR kind path name).1 := ⟨_, rfl⟩
  obtain ⟨E, hE⟩ : ∃ E, E = (keyR kind path name).2 := ⟨_, rfl⟩
  rw [← hA, ← hE]
  have KA : Hid (keyR kind path name = (A, E)) := Lib.hid (by rw [hA, hE])
  have KN : Hid (E ≠ 0 → A = ⟨#[]⟩) := Lib.hid fun q => by rw [hA]; exact keyR_err (by rw [← hE]; exact q)
  clear hb B1 hA hE
  go_wp2_with fail
  refine (key_any other path2 name2 w2 (HM.out.below B2.out) SZ.out.2.2.1 SZ.out.2.2.2.1).mono ?_
  rintro e w3 ⟨rfl, hb⟩
  have B3 := Lib.hid (B2.out.trans (hb.mono B2.out.size))
  obtain ⟨B, hB⟩ : ∃ B, B = (keyR other path2 name2).1 := ⟨_, rfl⟩
  obtain ⟨F, hF⟩ : ∃ F, F = (keyR other path2 name2).2 := ⟨_, rfl⟩
  rw [← hB, ← hF]
  have LA : Hid (keyR other path2 name2 = (B, F)) := Lib.hid (by rw [hB, hF])
  have LN : Hid (F ≠ 0 → B = ⟨#[]⟩) := Lib.hid fun q => by rw [hB]; exact keyR_err (by rw [← hF]; exact q)
  clear hb B2 hB hF
  -- the end, whatever came before
  have TAIL : ∀ (W : World) (K : Prop), Below w.heap.size w W → True := fun _ _ _ => trivial
  clear TAIL
  by_cases hE : E = 0
  case neg =>
    have eA := KN.out hE
    subst eA
    have gE : (E != 0) = true := by rw [bne_iff_ne]; exact hE
    have gE2 : (E == 0) = false := by rw [beq_eq_false_iff_ne]; exact hE
    clear hE
    by_cases hF : F = 0
    · have gF : (F != 0) = false := by rw [hF]; rfl
      clear hF
      go_wp2_with fail
      refine (unkey_any text w3 (HM.out.below B3.out) SZ.out.2.2.2.2).mono ?_
      rintro e w8 ⟨rfl, hb⟩
      have B8 := Lib.hid (B3.out.trans (hb.mono B3.out.size))
      clear hb
      obtain ⟨U1, hU1⟩ : ∃ U1, U1 = (unR text).1 := ⟨_, rfl⟩
      obtain ⟨U2, hU2⟩ : ∃ U2, U2 = (unR text).2.1 := ⟨_, rfl⟩
      obtain ⟨U3, hU3⟩ : ∃ U3, U3 = (unR text).2.2.1 := ⟨_, rfl⟩
      obtain ⟨U4, hU4⟩ : ∃ U4, U4 = (unR text).2.2.2 := ⟨_, rfl⟩
      rw [← hU1, ← hU2, ← hU3, ← hU4]
      by_cases hU : U4 = 0
      · have hz := un_size (s := text) (by rw [← hU4]; exact hU)
        have hk := un_back (s := text) (by rw [← hU4]; exact hU)
        rw [← hU1, ← hU2, ← hU3] at hk
        rw [← hU2, ← hU3] at hz
        have KY := Lib.hid (key_any U1 U2 U3 w8 (HM.out.below B8.out) (by omega) (by omega))
        rw [hk] at KY
        clear hk hz hU1 hU2 hU3 hU4
        subst hU
        have gt : (text.toList == text.toList) = true := by simp
        go_wp2_with fail
        refine KY.out.mono ?_
        rintro e w9 ⟨rfl, hb⟩
        have B9 := Lib.hid (B8.out.trans (hb.mono B8.out.size))
        clear hb KY
        go_wp2_with fail
        go_ret
        exact ⟨rfl, B9.out⟩
      · have hn := (un_code text).resolve_left (by rw [← hU4]; exact hU)
        rw [hn] at hU1 hU2 hU3 hU4
        simp only at hU1 hU2 hU3 hU4
        subst hU1 hU2 hU3 hU4
        clear hU hn
        go_wp2_with fail
        go_ret
        exact ⟨rfl, B8.out⟩
    · have eB := LN.out hF
      subst eB
      have gF : (F != 0) = true := by rw [bne_iff_ne]; exact hF
      clear hF
      go_wp2_with fail
      refine (unkey_any text w3 (HM.out.below B3.out) SZ.out.2.2.2.2).mono ?_
      rintro e w8 ⟨rfl, hb⟩
      have B8 := Lib.hid (B3.out.trans (hb.mono B3.out.size))
      clear hb
      obtain ⟨U1, hU1⟩ : ∃ U1, U1 = (unR text).1 := ⟨_, rfl⟩
      obtain ⟨U2, hU2⟩ : ∃ U2, U2 = (unR text).2.1 := ⟨_, rfl⟩
      obtain ⟨U3, hU3⟩ : ∃ U3, U3 = (unR text).2.2.1 := ⟨_, rfl⟩
      obtain ⟨U4, hU4⟩ : ∃ U4, U4 = (unR text).2.2.2 := ⟨_, rfl⟩
      rw [← hU1, ← hU2, ← hU3, ← hU4]
      by_cases hU : U4 = 0
      · have hz := un_size (s := text) (by rw [← hU4]; exact hU)
        have hk := un_back (s := text) (by rw [← hU4]; exact hU)
        rw [← hU1, ← hU2, ← hU3] at hk
        rw [← hU2, ← hU3] at hz
        have KY := Lib.hid (key_any U1 U2 U3 w8 (HM.out.below B8.out) (by omega) (by omega))
        rw [hk] at KY
        clear hk hz hU1 hU2 hU3 hU4
        subst hU
        have gt : (text.toList == text.toList) = true := by simp
        go_wp2_with fail
        refine KY.out.mono ?_
        rintro e w9 ⟨rfl, hb⟩
        have B9 := Lib.hid (B8.out.trans (hb.mono B8.out.size))
        clear hb KY
        go_wp2_with fail
        go_ret
        exact ⟨rfl, B9.out⟩
      · have hn := (un_code text).resolve_left (by rw [← hU4]; exact hU)
        rw [hn] at hU1 hU2 hU3 hU4
        simp only at hU1 hU2 hU3 hU4
        subst hU1 hU2 hU3 hU4
        clear hU hn
        go_wp2_with fail
        go_ret
        exact ⟨rfl, B8.out⟩
  subst hE
  have OK := keyR_ok KA.out
  have UK := un_key KA.out
  have SA := (key_size OK.2.2.2.2).1
  have gK0 : decide (kind < 0) = false := decide_eq_false (by omega)
  have gK4 : decide (kind > 4) = false := decide_eq_false (by omega)
  have gSA : decide ((A.size : Int) > 120) = false := decide_eq_false (by omega)
  have gp : (path.toList == path.toList) = true := by simp
  have gn : (name.toList == name.toList) = true := by simp
  have UA := Lib.hid (unkey_any A w3 (HM.out.below B3.out) (by omega))
  rw [UK] at UA
  have HO := Lib.hid OK
  have kb : 0 ≤ kind ∧ kind ≤ 4 := ⟨OK.1, OK.2.1⟩
  have xs : ∀ k : Int, 0 ≤ k ∧ k ≤ 4 → (⟨#[110, 113, 108, 111, 98]⟩ : ByteArray).extract k.toNat (k + 1).toNat = letter k := fun k h => by
    have : k = 0 ∨ k = 1 ∨ k = 2 ∨ k = 3 ∨ k = 4 := by omega
    rcases this with rfl | rfl | rfl | rfl | rfl <;> decide
  have XS := Lib.hid xs
  clear OK UK SA xs
  have hs3 : Hid (∀ t ∈ [letter kind, path, name], t.size ≤ 140737488355328) := Lib.hid fun t ht => by
    simp only [List.mem_cons, List.not_mem_nil, or_false] at ht
    rcases ht with rfl | rfl | rfl
    · rw [letter_size]; decide
    · exact SZ.out.1
    · exact SZ.out.2.1
  have Q1 : Hid (wiB A [letter kind] = true) := Lib.hid (by rw [wi_beg (qs := [path, name]) HO.out.2.2.2.2 HO.out.2.2.2.2 (by simp), beg1]; simp)
  have Q2 : Hid (wiB A [letter kind, path] = true) := Lib.hid (by rw [wi_beg (qs := [name]) HO.out.2.2.2.2 HO.out.2.2.2.2 (by simp), beg2]; simp)
  have Q3 : Hid (wiB A [letter kind, path, name] = true) := Lib.hid (by rw [wi_beg (qs := []) HO.out.2.2.2.2 (by rw [List.append_nil]; exact HO.out.2.2.2.2) (by simp), beg3])
  have wk : wrap64 (kind + 1) = kind + 1 := wrap64_small (by omega) (by omega)
  have xk := XS.out kind kb
  have kb0 : ¬ kind < 0 := by omega
  have kb1 : kind ≤ kind + 1 := by omega
  have kb5 : kind + 1 ≤ 5 := by omega
  have gF1 : F = 0 ∨ F ≠ 0 := Classical.em _
  have gFE : (F != 0) = true → B = ⟨#[]⟩ := fun q => LN.out (by rw [bne_iff_ne] at q; exact q)
  have GFE := Lib.hid gFE
  clear gFE
  rcases gF1 with hF | hF
  · subst hF
    have OL := keyR_ok LA.out
    have HL := Lib.hid OL
    have ob : 0 ≤ other ∧ other ≤ 4 := ⟨OL.1, OL.2.1⟩
    have wo : wrap64 (other + 1) = other + 1 := wrap64_small (by omega) (by omega)
    have xo := XS.out other ob
    have ob0 : ¬ other < 0 := by omega
    have ob1 : other ≤ other + 1 := by omega
    have ob5 : other + 1 ≤ 5 := by omega
    have go0 : decide (other < 0) = false := decide_eq_false (by omega)
    have go4 : decide (other > 4) = false := decide_eq_false (by omega)
    have hs4 : Hid (∀ t ∈ [letter other, path2], t.size ≤ 140737488355328) := Lib.hid fun t ht => by
      simp only [List.mem_cons, List.not_mem_nil, or_false] at ht
      rcases ht with rfl | rfl
      · rw [letter_size]; decide
      · exact SZ.out.2.2.1
    have lk : Hid (decide (letter other = letter kind) = decide (kind = other)) := Lib.hid (by
      by_cases q : kind = other
      · rw [q]; simp
      · rw [decide_eq_false q, decide_eq_false (fun h => q (letter_inj kb ob h.symm))])
    have R1 : Hid (wiB A [letter other] = decide (kind = other)) := Lib.hid (by rw [wi_beg (qs := [path2, name2]) HO.out.2.2.2.2 HL.out.2.2.2.2 (by simp), beg1, lk.out])
    have R2 : Hid (wiB A [letter other, path2] = (decide (kind = other) && decide (path2 = path))) := Lib.hid (by rw [wi_beg (qs := [name2]) HO.out.2.2.2.2 HL.out.2.2.2.2 (by simp), beg2, lk.out])
    have AB : Hid (A = B ↔ kind = other ∧ path = path2 ∧ name = name2) := Lib.hid (by
      constructor
      · intro q
        have u1 := un_key KA.out
        have u2 := un_key LA.out
        rw [q, u2] at u1
        simp only [Prod.mk.injEq] at u1
        exact ⟨u1.1.symm, u1.2.1.symm, u1.2.2.1.symm⟩
      · rintro ⟨rfl, rfl, rfl⟩
        have := KA.out.symm.trans LA.out
        simp only [Prod.mk.injEq] at this
        exact this.1)
    clear OL
    go_wp2_with fail
    refine UA.out.mono ?_
    rintro e w4 ⟨rfl, hb⟩
    have B4 := Lib.hid (B3.out.trans (hb.mono B3.out.size))
    clear hb UA
    go_wp2_with fail
    refine (lwithin_new A [letter kind] 1 _ w4 (HM.out.below B4.out) rfl rfl (by show 1 ≤ maxLen; decide) (fun t ht => hs3.out t (by simp at ht; simp [ht])) Q1.out).mono ?_
    rintro e w5 ⟨rfl, hb⟩
    have B5 := Lib.hid (B4.out.trans (hb.mono B4.out.size))
    clear hb
    go_wp2_with fail
    refine (lwithin_new A [letter kind, path] 2 _ w5 (HM.out.below B5.out) rfl rfl (by show 2 ≤ maxLen; decide) (fun t ht => hs3.out t (by simp at ht; rcases ht with rfl | rfl <;> simp)) Q2.out).mono ?_
    rintro e w6 ⟨rfl, hb⟩
    have B6 := Lib.hid (B5.out.trans (hb.mono B5.out.size))
    clear hb
    go_wp2_with fail
    refine (lwithin_new A [letter kind, path, name] 3 _ w6 (HM.out.below B6.out) rfl rfl (by show 3 ≤ maxLen; decide) hs3.out Q3.out).mono ?_
    rintro e w7 ⟨rfl, hb⟩
    have B7 := Lib.hid (B6.out.trans (hb.mono B6.out.size))
    clear hb wk xk kb0 kb1 kb5 gSA
    by_cases hko : kind = other
    · subst hko
      by_cases hpp : path = path2
      · subst hpp
        by_cases hnn : name = name2
        · subst hnn
          have gab : (A.toList == B.toList) = true := by rw [text_eq, decide_eq_true (AB.out.2 ⟨rfl, rfl, rfl⟩)]
          have r1 : wiB A [letter kind] = true := by rw [R1.out]; simp
          have r2 : wiB A [letter kind, path] = true := by rw [R2.out]; simp
          have RR := Lib.hid (And.intro r1 r2)
          clear r1 r2
          go_wp2_with fail
          refine (lwithin_new A [letter kind] 1 _ w7 (HM.out.below B7.out) rfl rfl (by show 1 ≤ maxLen; decide) (fun t ht => hs4.out t (by simp at ht; simp [ht])) RR.out.1).mono ?_
          rintro e wa ⟨rfl, hb⟩
          have Ba := Lib.hid (B7.out.trans (hb.mono B7.out.size))
          clear hb
          go_wp2_with fail
          refine (lwithin_new A [letter kind, path] 2 _ wa (HM.out.below Ba.out) rfl rfl (by show 2 ≤ maxLen; decide) (fun t ht => hs4.out t ht) RR.out.2).mono ?_
          rintro e wb ⟨rfl, hb⟩
          have Bb := Lib.hid (Ba.out.trans (hb.mono Ba.out.size))
          clear hb
          go_wp2_with fail
          refine (unkey_any text wb (HM.out.below Bb.out) SZ.out.2.2.2.2).mono ?_
          rintro e w8 ⟨rfl, hb⟩
          have B8 := Lib.hid (Bb.out.trans (hb.mono Bb.out.size))
          clear hb
          obtain ⟨U1, hU1⟩ : ∃ U1, U1 = (unR text).1 := ⟨_, rfl⟩
          obtain ⟨U2, hU2⟩ : ∃ U2, U2 = (unR text).2.1 := ⟨_, rfl⟩
          obtain ⟨U3, hU3⟩ : ∃ U3, U3 = (unR text).2.2.1 := ⟨_, rfl⟩
          obtain ⟨U4, hU4⟩ : ∃ U4, U4 = (unR text).2.2.2 := ⟨_, rfl⟩
          rw [← hU1, ← hU2, ← hU3, ← hU4]
          by_cases hU : U4 = 0
          · have hz := un_size (s := text) (by rw [← hU4]; exact hU)
            have hk := un_back (s := text) (by rw [← hU4]; exact hU)
            rw [← hU1, ← hU2, ← hU3] at hk
            rw [← hU2, ← hU3] at hz
            have KY := Lib.hid (key_any U1 U2 U3 w8 (HM.out.below B8.out) (by omega) (by omega))
            rw [hk] at KY
            clear hk hz hU1 hU2 hU3 hU4
            subst hU
            have gt : (text.toList == text.toList) = true := by simp
            go_wp2_with fail
            refine KY.out.mono ?_
            rintro e w9 ⟨rfl, hb⟩
            have B9 := Lib.hid (B8.out.trans (hb.mono B8.out.size))
            clear hb KY
            go_wp2_with fail
            go_ret
            exact ⟨rfl, B9.out⟩
          · have hn := (un_code text).resolve_left (by rw [← hU4]; exact hU)
            rw [hn] at hU1 hU2 hU3 hU4
            simp only at hU1 hU2 hU3 hU4
            subst hU1 hU2 hU3 hU4
            clear hU hn
            go_wp2_with fail
            go_ret
            exact ⟨rfl, B8.out⟩
        · have gab : (A.toList == B.toList) = false := by rw [text_eq, decide_eq_false (fun q => hnn (AB.out.1 q).2.2)]
          have gnn : (name.toList == name2.toList) = false := by rw [text_eq, decide_eq_false hnn]
          have r1 : wiB A [letter kind] = true := by rw [R1.out]; simp
          have r2 : wiB A [letter kind, path] = true := by rw [R2.out]; simp
          have RR := Lib.hid (And.intro r1 r2)
          clear r1 r2
          go_wp2_with fail
          refine (lwithin_new A [letter kind] 1 _ w7 (HM.out.below B7.out) rfl rfl (by show 1 ≤ maxLen; decide) (fun t ht => hs4.out t (by simp at ht; simp [ht])) RR.out.1).mono ?_
          rintro e wa ⟨rfl, hb⟩
          have Ba := Lib.hid (B7.out.trans (hb.mono B7.out.size))
          clear hb
          go_wp2_with fail
          refine (lwithin_new A [letter kind, path] 2 _ wa (HM.out.below Ba.out) rfl rfl (by show 2 ≤ maxLen; decide) (fun t ht => hs4.out t ht) RR.out.2).mono ?_
          rintro e wb ⟨rfl, hb⟩
          have Bb := Lib.hid (Ba.out.trans (hb.mono Ba.out.size))
          clear hb
          go_wp2_with fail
          refine (unkey_any text wb (HM.out.below Bb.out) SZ.out.2.2.2.2).mono ?_
          rintro e w8 ⟨rfl, hb⟩
          have B8 := Lib.hid (Bb.out.trans (hb.mono Bb.out.size))
          clear hb
          obtain ⟨U1, hU1⟩ : ∃ U1, U1 = (unR text).1 := ⟨_, rfl⟩
          obtain ⟨U2, hU2⟩ : ∃ U2, U2 = (unR text).2.1 := ⟨_, rfl⟩
          obtain ⟨U3, hU3⟩ : ∃ U3, U3 = (unR text).2.2.1 := ⟨_, rfl⟩
          obtain ⟨U4, hU4⟩ : ∃ U4, U4 = (unR text).2.2.2 := ⟨_, rfl⟩
          rw [← hU1, ← hU2, ← hU3, ← hU4]
          by_cases hU : U4 = 0
          · have hz := un_size (s := text) (by rw [← hU4]; exact hU)
            have hk := un_back (s := text) (by rw [← hU4]; exact hU)
            rw [← hU1, ← hU2, ← hU3] at hk
            rw [← hU2, ← hU3] at hz
            have KY := Lib.hid (key_any U1 U2 U3 w8 (HM.out.below B8.out) (by omega) (by omega))
            rw [hk] at KY
            clear hk hz hU1 hU2 hU3 hU4
            subst hU
            have gt : (text.toList == text.toList) = true := by simp
            go_wp2_with fail
            refine KY.out.mono ?_
            rintro e w9 ⟨rfl, hb⟩
            have B9 := Lib.hid (B8.out.trans (hb.mono B8.out.size))
            clear hb KY
            go_wp2_with fail
            go_ret
            exact ⟨rfl, B9.out⟩
          · have hn := (un_code text).resolve_left (by rw [← hU4]; exact hU)
            rw [hn] at hU1 hU2 hU3 hU4
            simp only at hU1 hU2 hU3 hU4
            subst hU1 hU2 hU3 hU4
            clear hU hn
            go_wp2_with fail
            go_ret
            exact ⟨rfl, B8.out⟩
      · have gab : (A.toList == B.toList) = false := by rw [text_eq, decide_eq_false (fun q => hpp (AB.out.1 q).2.1)]
        have gpp : (path.toList == path2.toList) = false := by rw [text_eq, decide_eq_false hpp]
        have r1 : wiB A [letter kind] = true := by rw [R1.out]; simp
        have r2 : wiB A [letter kind, path2] = false := by rw [R2.out]; simp [Ne.symm hpp]
        have RR := Lib.hid (And.intro r1 r2)
        clear r1 r2 hpp
        go_wp2_with fail
        refine (lwithin_new A [letter kind] 1 _ w7 (HM.out.below B7.out) rfl rfl (by show 1 ≤ maxLen; decide) (fun t ht => hs4.out t (by simp at ht; simp [ht])) RR.out.1).mono ?_
        rintro e wa ⟨rfl, hb⟩
        have Ba := Lib.hid (B7.out.trans (hb.mono B7.out.size))
        clear hb
        go_wp2_with fail
        refine (lwithin_new A [letter kind, path2] 2 _ wa (HM.out.below Ba.out) rfl rfl (by show 2 ≤ maxLen; decide) (fun t ht => hs4.out t ht) RR.out.2).mono ?_
        rintro e wb ⟨rfl, hb⟩
        have Bb := Lib.hid (Ba.out.trans (hb.mono Ba.out.size))
        clear hb
        go_wp2_with fail
        refine (unkey_any text wb (HM.out.below Bb.out) SZ.out.2.2.2.2).mono ?_
        rintro e w8 ⟨rfl, hb⟩
        have B8 := Lib.hid (Bb.out.trans (hb.mono Bb.out.size))
        clear hb
        obtain ⟨U1, hU1⟩ : ∃ U1, U1 = (unR text).1 := ⟨_, rfl⟩
        obtain ⟨U2, hU2⟩ : ∃ U2, U2 = (unR text).2.1 := ⟨_, rfl⟩
        obtain ⟨U3, hU3⟩ : ∃ U3, U3 = (unR text).2.2.1 := ⟨_, rfl⟩
        obtain ⟨U4, hU4⟩ : ∃ U4, U4 = (unR text).2.2.2 := ⟨_, rfl⟩
        rw [← hU1, ← hU2, ← hU3, ← hU4]
        by_cases hU : U4 = 0
        · have hz := un_size (s := text) (by rw [← hU4]; exact hU)
          have hk := un_back (s := text) (by rw [← hU4]; exact hU)
          rw [← hU1, ← hU2, ← hU3] at hk
          rw [← hU2, ← hU3] at hz
          have KY := Lib.hid (key_any U1 U2 U3 w8 (HM.out.below B8.out) (by omega) (by omega))
          rw [hk] at KY
          clear hk hz hU1 hU2 hU3 hU4
          subst hU
          have gt : (text.toList == text.toList) = true := by simp
          go_wp2_with fail
          refine KY.out.mono ?_
          rintro e w9 ⟨rfl, hb⟩
          have B9 := Lib.hid (B8.out.trans (hb.mono B8.out.size))
          clear hb KY
          go_wp2_with fail
          go_ret
          exact ⟨rfl, B9.out⟩
        · have hn := (un_code text).resolve_left (by rw [← hU4]; exact hU)
          rw [hn] at hU1 hU2 hU3 hU4
          simp only at hU1 hU2 hU3 hU4
          subst hU1 hU2 hU3 hU4
          clear hU hn
          go_wp2_with fail
          go_ret
          exact ⟨rfl, B8.out⟩
    · have gab : (A.toList == B.toList) = false := by rw [text_eq, decide_eq_false (fun q => hko (AB.out.1 q).1)]
      have gko : (kind == other) = false := by rw [beq_eq_false_iff_ne]; exact hko
      have r1 : wiB A [letter other] = false := by rw [R1.out]; simp [hko]
      have r2 : wiB A [letter other, path2] = false := by rw [R2.out]; simp [hko]
      have RR := Lib.hid (And.intro r1 r2)
      clear r1 r2 hko
      go_wp2_with fail
      refine (lwithin_new A [letter other] 1 _ w7 (HM.out.below B7.out) rfl rfl (by show 1 ≤ maxLen; decide) (fun t ht => hs4.out t (by simp at ht; simp [ht])) RR.out.1).mono ?_
      rintro e wa ⟨rfl, hb⟩
      have Ba := Lib.hid (B7.out.trans (hb.mono B7.out.size))
      clear hb
      go_wp2_with fail
      refine (lwithin_new A [letter other, path2] 2 _ wa (HM.out.below Ba.out) rfl rfl (by show 2 ≤ maxLen; decide) (fun t ht => hs4.out t ht) RR.out.2).mono ?_
      rintro e wb ⟨rfl, hb⟩
      have Bb := Lib.hid (Ba.out.trans (hb.mono Ba.out.size))
      clear hb
      go_wp2_with fail
      refine (unkey_any text wb (HM.out.below Bb.out) SZ.out.2.2.2.2).mono ?_
      rintro e w8 ⟨rfl, hb⟩
      have B8 := Lib.hid (Bb.out.trans (hb.mono Bb.out.size))
      clear hb
      obtain ⟨U1, hU1⟩ : ∃ U1, U1 = (unR text).1 := ⟨_, rfl⟩
      obtain ⟨U2, hU2⟩ : ∃ U2, U2 = (unR text).2.1 := ⟨_, rfl⟩
      obtain ⟨U3, hU3⟩ : ∃ U3, U3 = (unR text).2.2.1 := ⟨_, rfl⟩
      obtain ⟨U4, hU4⟩ : ∃ U4, U4 = (unR text).2.2.2 := ⟨_, rfl⟩
      rw [← hU1, ← hU2, ← hU3, ← hU4]
      by_cases hU : U4 = 0
      · have hz := un_size (s := text) (by rw [← hU4]; exact hU)
        have hk := un_back (s := text) (by rw [← hU4]; exact hU)
        rw [← hU1, ← hU2, ← hU3] at hk
        rw [← hU2, ← hU3] at hz
        have KY := Lib.hid (key_any U1 U2 U3 w8 (HM.out.below B8.out) (by omega) (by omega))
        rw [hk] at KY
        clear hk hz hU1 hU2 hU3 hU4
        subst hU
        have gt : (text.toList == text.toList) = true := by simp
        go_wp2_with fail
        refine KY.out.mono ?_
        rintro e w9 ⟨rfl, hb⟩
        have B9 := Lib.hid (B8.out.trans (hb.mono B8.out.size))
        clear hb KY
        go_wp2_with fail
        go_ret
        exact ⟨rfl, B9.out⟩
      · have hn := (un_code text).resolve_left (by rw [← hU4]; exact hU)
        rw [hn] at hU1 hU2 hU3 hU4
        simp only at hU1 hU2 hU3 hU4
        subst hU1 hU2 hU3 hU4
        clear hU hn
        go_wp2_with fail
        go_ret
        exact ⟨rfl, B8.out⟩
  · have gF : (F != 0) = true := by rw [bne_iff_ne]; exact hF
    have gF2 : (F == 0) = false := by rw [beq_eq_false_iff_ne]; exact hF
    have eB := LN.out hF
    subst eB
    clear hF
    go_wp2_with fail
    refine UA.out.mono ?_
    rintro e w4 ⟨rfl, hb⟩
    have B4 := Lib.hid (B3.out.trans (hb.mono B3.out.size))
    clear hb UA
    go_wp2_with fail
    refine (lwithin_new A [letter kind] 1 _ w4 (HM.out.below B4.out) rfl rfl (by show 1 ≤ maxLen; decide) (fun t ht => hs3.out t (by simp at ht; simp [ht])) Q1.out).mono ?_
    rintro e w5 ⟨rfl, hb⟩
    have B5 := Lib.hid (B4.out.trans (hb.mono B4.out.size))
    clear hb
    go_wp2_with fail
    refine (lwithin_new A [letter kind, path] 2 _ w5 (HM.out.below B5.out) rfl rfl (by show 2 ≤ maxLen; decide) (fun t ht => hs3.out t (by simp at ht; rcases ht with rfl | rfl <;> simp)) Q2.out).mono ?_
    rintro e w6 ⟨rfl, hb⟩
    have B6 := Lib.hid (B5.out.trans (hb.mono B5.out.size))
    clear hb
    go_wp2_with fail
    refine (lwithin_new A [letter kind, path, name] 3 _ w6 (HM.out.below B6.out) rfl rfl (by show 3 ≤ maxLen; decide) hs3.out Q3.out).mono ?_
    rintro e w7 ⟨rfl, hb⟩
    have B7 := Lib.hid (B6.out.trans (hb.mono B6.out.size))
    clear hb wk xk kb0 kb1 kb5 gSA
    go_wp2_with fail
    refine (unkey_any text w7 (HM.out.below B7.out) SZ.out.2.2.2.2).mono ?_
    rintro e w8 ⟨rfl, hb⟩
    have B8 := Lib.hid (B7.out.trans (hb.mono B7.out.size))
    clear hb
    obtain ⟨U1, hU1⟩ : ∃ U1, U1 = (unR text).1 := ⟨_, rfl⟩
    obtain ⟨U2, hU2⟩ : ∃ U2, U2 = (unR text).2.1 := ⟨_, rfl⟩
    obtain ⟨U3, hU3⟩ : ∃ U3, U3 = (unR text).2.2.1 := ⟨_, rfl⟩
    obtain ⟨U4, hU4⟩ : ∃ U4, U4 = (unR text).2.2.2 := ⟨_, rfl⟩
    rw [← hU1, ← hU2, ← hU3, ← hU4]
    by_cases hU : U4 = 0
    · have hz := un_size (s := text) (by rw [← hU4]; exact hU)
      have hk := un_back (s := text) (by rw [← hU4]; exact hU)
      rw [← hU1, ← hU2, ← hU3] at hk
      rw [← hU2, ← hU3] at hz
      have KY := Lib.hid (key_any U1 U2 U3 w8 (HM.out.below B8.out) (by omega) (by omega))
      rw [hk] at KY
      clear hk hz hU1 hU2 hU3 hU4
      subst hU
      have gt : (text.toList == text.toList) = true := by simp
      go_wp2_with fail
      refine KY.out.mono ?_
      rintro e w9 ⟨rfl, hb⟩
      have B9 := Lib.hid (B8.out.trans (hb.mono B8.out.size))
      clear hb KY
      go_wp2_with fail
      go_ret
      exact ⟨rfl, B9.out⟩
    · have hn := (un_code text).resolve_left (by rw [← hU4]; exact hU)
      rw [hn] at hU1 hU2 hU3 hU4
      simp only at hU1 hU2 hU3 hU4
      subst hU1 hU2 hU3 hU4
      clear hU hn
      go_wp2_with fail
      go_ret
      exact ⟨rfl, B8.out⟩
end Go.Proofs.YtofjicjoohphcaaDoor
