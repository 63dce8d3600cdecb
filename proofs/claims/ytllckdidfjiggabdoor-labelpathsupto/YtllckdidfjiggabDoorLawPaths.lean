/-
  THE WALK of LabelPaths.
-/
import Derived.Test.YtllckdidfjiggabDoorRefUnder
namespace Go.Proofs.YtllckdidfjiggabDoor
open Go.RowKit
set_option maxHeartbeats 2000000 in
theorem parent_none (p : ByteArray) (w : World) (hm : HasM w) (hn : splitO p = none) : Calls Tryd.prog 19 #[.string p] w fun e w' => e = .returned (.tuple #[.string ⟨#[]⟩, .int .i64 41]) ∧ Below w.heap.size w w' := by
  have PA := Lib.hid (path_any p w hm)
  rw [splitE_none hn] at PA
  clear hm
  go_enter Tryd.func19, Tryd.ntmps19
  go_wp2_with fail
  refine PA.out.mono ?_
  rintro e w1 ⟨rfl, hb⟩
  have B1 := Lib.hid hb
  clear hb PA
  go_wp2_with fail
  go_ret2
  exact ⟨rfl, B1.out⟩
set_option maxHeartbeats 2000000 in
theorem line_none (p : ByteArray) (w : World) (hm : HasM w) (hn : splitO p = none) : Calls Tryd.prog 21 #[.string p] w fun e w' => e = .returned (.tuple #[.slice none 0 0, .int .i64 41]) ∧ Below w.heap.size w w' := by
  have PA := Lib.hid (path_any p w hm)
  rw [splitE_none hn] at PA
  clear hm
  go_enter Tryd.func21, Tryd.ntmps21
  go_wp2_with fail
  refine PA.out.mono ?_
  rintro e w1 ⟨rfl, hb⟩
  have B1 := Lib.hid hb
  clear hb PA
  go_wp2_with fail
  go_ret2
  exact ⟨rfl, B1.out⟩
theorem parent_R (ts : List ByteArray) (hg : Good ts) (w : World) (hm : HasM w) : Calls Tryd.prog 19 #[.string (pth ts)] w fun e w' => e = .returned (.tuple #[.string (parentR ts).1, .int .i64 (parentR ts).2]) ∧ Below w.heap.size w w' := by
  by_cases h : ts = []
  · subst h
    exact parent_root w hm
  · have e : parentR ts = (pth ts.dropLast, 0) := by unfold parentR; rw [if_neg h]
    rw [e]
    exact parent_any ts hg h w hm
set_option maxHeartbeats 8000000 in
set_option maxRecDepth 100000 in
/-- The law's road, once its callees' answers are told. -/
theorem paths_road (a b : ByteArray) (y u : Bool) (pe : Int) (ts ls : List ByteArray) (r : ByteArray × Int) (le : Int) (w : World) (hm : HasM w)
    (N1 : ∀ W, Calls Tryd.prog 10 #[.string a] W fun e w' => e = .returned (.bool y) ∧ Below W.heap.size W w')
    (N2 : ∀ W, Calls Tryd.prog 11 #[.string a] W fun e w' => e = .returned (.bool y) ∧ w' = W)
    (P1 : ∀ W, HasM W → Calls Tryd.prog 12 #[.string a] W fun e w' => e = .returned (.int .i64 pe) ∧ Below W.heap.size W w')
    (P2 : ∀ W, Calls Tryd.prog 13 #[.string a] W fun e w' => e = .returned (.int .i64 pe) ∧ Below W.heap.size W w')
    (U1 : ∀ W, HasM W → Calls Tryd.prog 14 #[.string a, .string b] W fun e w' => e = .returned (.bool u) ∧ Below W.heap.size W w')
    (U2 : ∀ W, Calls Tryd.prog 15 #[.string a, .string b] W fun e w' => e = .returned (.bool u) ∧ Below W.heap.size W w')
    (S1 : ∀ W, HasM W → Calls Tryd.prog 16 #[.string a] W fun e w' => ∃ v, e = .returned (.tuple #[v, .int .i64 pe]) ∧ OwnS W.heap.size w' v ts ∧ Below W.heap.size W w')
    (S2 : ∀ W, Calls Tryd.prog 17 #[.string a] W fun e w' => ∃ v, e = .returned (.tuple #[v, .int .i64 pe]) ∧ Strs w' v ts ∧ Below W.heap.size W w')
    (Q1 : ∀ W, HasM W → Calls Tryd.prog 19 #[.string a] W fun e w' => e = .returned (.tuple #[.string r.1, .int .i64 r.2]) ∧ Below W.heap.size W w')
    (Q2 : ∀ W, Calls Tryd.prog 20 #[.string a] W fun e w' => e = .returned (.tuple #[.string r.1, .int .i64 r.2]) ∧ Below W.heap.size W w')
    (L1 : ∀ W, HasM W → Calls Tryd.prog 21 #[.string a] W fun e w' => ∃ v, e = .returned (.tuple #[v, .int .i64 le]) ∧ Strs w' v ls ∧ Below W.heap.size W w')
    (L2 : ∀ W, Calls Tryd.prog 22 #[.string a] W fun e w' => ∃ v, e = .returned (.tuple #[v, .int .i64 le]) ∧ Strs w' v ls ∧ Below W.heap.size W w') :
    Calls Tryd.prog 4 #[.string a, .string b] w fun e w' => e = .returned (.bool true) ∧ Below w.heap.size w w' := by
  have H := Lib.hid hm
  have n1 := Lib.hid N1
  have n2 := Lib.hid N2
  have p1 := Lib.hid P1
  have p2 := Lib.hid P2
  have u1 := Lib.hid U1
  have u2 := Lib.hid U2
  have s1 := Lib.hid S1
  have s2 := Lib.hid S2
  have q1 := Lib.hid Q1
  have q2 := Lib.hid Q2
  have l1 := Lib.hid L1
  have l2 := Lib.hid L2
  obtain ⟨r1, r2⟩ := r
  clear hm N1 N2 P1 P2 U1 U2 S1 S2 Q1 Q2 L1 L2
  go_enter Tryd.func4, Tryd.ntmps4
  go_wp2_with fail
  refine (fixed_ok w H.out).mono ?_
  rintro e w1 ⟨rfl, hb⟩
  have B1 := Lib.hid hb
  have H1 := Lib.hid (H.out.below hb)
  clear hb H
  go_wp2_with fail
  refine (n1.out w1).mono ?_
  rintro e w2 ⟨rfl, hb⟩
  have B2 := Lib.hid (B1.out.trans (hb.mono B1.out.size))
  have H2 := Lib.hid (H1.out.below hb)
  clear hb B1 H1 n1
  go_wp2_with fail
  refine (n2.out w2).mono ?_
  rintro e w2' ⟨rfl, rfl⟩
  clear n2
  go_wp2_with fail
  refine (p1.out _ H2.out).mono ?_
  rintro e w3 ⟨rfl, hb⟩
  have B3 := Lib.hid (B2.out.trans (hb.mono B2.out.size))
  have H3 := Lib.hid (H2.out.below hb)
  clear hb B2 H2 p1
  go_wp2_with fail
  refine (p2.out w3).mono ?_
  rintro e w4 ⟨rfl, hb⟩
  have B4 := Lib.hid (B3.out.trans (hb.mono B3.out.size))
  have H4 := Lib.hid (H3.out.below hb)
  clear hb B3 H3 p2
  go_wp2_with fail
  refine (u1.out w4 H4.out).mono ?_
  rintro e w5 ⟨rfl, hb⟩
  have B5 := Lib.hid (B4.out.trans (hb.mono B4.out.size))
  have H5 := Lib.hid (H4.out.below hb)
  clear hb B4 H4 u1
  go_wp2_with fail
  refine (u2.out w5).mono ?_
  rintro e w6 ⟨rfl, hb⟩
  have B6 := Lib.hid (B5.out.trans (hb.mono B5.out.size))
  have H6 := Lib.hid (H5.out.below hb)
  clear hb B5 H5 u2
  go_wp2_with fail
  refine (s1.out w6 H6.out).mono ?_
  rintro e w7 ⟨v7, rfl, own, hb⟩
  have B7 := Lib.hid (B6.out.trans (hb.mono B6.out.size))
  have H7 := Lib.hid (H6.out.below hb)
  have T7 := Lib.hid own.strs
  clear hb own B6 H6 s1
  go_wp2_with fail
  refine (s2.out w7).mono ?_
  rintro e w8 ⟨v8, rfl, hs, hb⟩
  have B8 := Lib.hid (B7.out.trans (hb.mono B7.out.size))
  have H8 := Lib.hid (H7.out.below hb)
  have T8 := Lib.hid (And.intro (T7.out.below hb) hs)
  clear hb hs B7 H7 T7 s2
  go_wp2_with fail
  refine (sameTexts_yes v7 v8 ts w8 T8.out.1 T8.out.2).mono ?_
  rintro e w9 ⟨rfl, hb⟩
  have B9 := Lib.hid (B8.out.trans (hb.mono B8.out.size))
  have H9 := Lib.hid (H8.out.below hb)
  clear hb B8 H8 T8
  go_wp2_with fail
  refine (q1.out w9 H9.out).mono ?_
  rintro e w10 ⟨rfl, hb⟩
  have B10 := Lib.hid (B9.out.trans (hb.mono B9.out.size))
  have H10 := Lib.hid (H9.out.below hb)
  clear hb B9 H9 q1
  go_wp2_with fail
  refine (q2.out w10).mono ?_
  rintro e w11 ⟨rfl, hb⟩
  have B11 := Lib.hid (B10.out.trans (hb.mono B10.out.size))
  have H11 := Lib.hid (H10.out.below hb)
  clear hb B10 H10 q2
  go_wp2_with fail
  refine (l1.out w11 H11.out).mono ?_
  rintro e w12 ⟨v12, rfl, hs, hb⟩
  have B12 := Lib.hid (B11.out.trans (hb.mono B11.out.size))
  have T12 := Lib.hid hs
  clear hb hs B11 H11 l1
  go_wp2_with fail
  refine (l2.out w12).mono ?_
  rintro e w13 ⟨v13, rfl, hs, hb⟩
  have B13 := Lib.hid (B12.out.trans (hb.mono B12.out.size))
  have T13 := Lib.hid (And.intro (T12.out.below hb) hs)
  clear hb hs B12 T12 l2
  go_wp2_with fail
  refine (sameTexts_yes v12 v13 ls w13 T13.out.1 T13.out.2).mono ?_
  rintro e w14 ⟨rfl, hb⟩
  have B14 := Lib.hid (B13.out.trans (hb.mono B13.out.size))
  clear hb B13 T13
  go_wp2_with fail
  go_ret
  exact ⟨rfl, B14.out⟩
theorem nil_strs (W : World) : Strs W (.slice none 0 0) [] := ⟨none, 0, rfl, by simp, by decide, fun _ => rfl, fun k hk => by simp at hk⟩
theorem labelPaths_walk (a b : ByteArray) (w : World) (hm : HasM w) (ha : a.size ≤ 1048576) (_ : b.size ≤ 1048576) :
    Calls Tryd.prog 4 #[.string a, .string b] w fun e w' => e = .returned (.bool true) ∧ Below w.heap.size w w' := by
  cases hs : splitO a with
  | none =>
    refine paths_road a b (nameB a) false 41 [] [] (⟨#[]⟩, 41) 41 w hm (name_any a) (refName_any a) ?_ ?_ ?_ ?_ ?_ ?_ ?_ ?_ ?_ ?_
    · intro W h; have := path_any a W h; rwa [splitE_none hs] at this
    · intro W; have := refPath_any a W ha; rwa [splitE_none hs] at this
    · intro W h; have := under_any a b W h; rwa [(under_none hs).1] at this
    · intro W; exact refUnder_none a b W ha hs
    · intro W h; have := split_any a W h; rwa [splitE_none hs, splitT_none hs] at this
    · intro W; have := refSplit_any a W ha; rwa [splitE_none hs, splitT_none hs] at this
    · intro W h; exact parent_none a W h hs
    · intro W; exact refParent_none a W ha hs
    · intro W h; exact (line_none a W h hs).mono fun _ _ ⟨he, hb⟩ => ⟨_, he, nil_strs _, hb⟩
    · intro W; exact (refLine_none a W ha hs).mono fun _ _ ⟨he, hb⟩ => ⟨_, he, nil_strs _, hb⟩
  | some ts =>
    obtain ⟨rfl, hg⟩ := splitO_some hs
    refine paths_road (pth ts) b (nameB (pth ts)) (inB ts b (ts.length + 1)) 0 ts (lineOf ts) (parentR ts) 0 w hm (name_any _) (refName_any _) ?_ ?_ ?_ ?_ ?_ ?_ ?_ ?_ ?_ ?_
    · intro W h; have := path_any (pth ts) W h; rwa [splitE_some hs] at this
    · intro W; have := refPath_any (pth ts) W ha; rwa [splitE_some hs] at this
    · intro W h; have := under_any (pth ts) b W h; rwa [← inB_under hg] at this
    · intro W; exact refUnder_any ts b hg W
    · intro W h; have := split_any (pth ts) W h; rwa [splitE_some hs, splitT_some hs] at this
    · intro W; have := refSplit_any (pth ts) W ha; rwa [splitE_some hs, splitT_some hs] at this
    · intro W h; exact parent_R ts hg W h
    · intro W; exact refParent_any ts hg W
    · intro W h; exact (line_any ts hg W h).mono fun _ _ ⟨v, he, ho, hb⟩ => ⟨v, he, ho.strs, hb⟩
    · intro W; exact (refLine_any ts hg W).mono fun _ _ ⟨v, he, ho, hb⟩ => ⟨v, he, ho.strs, hb⟩
end Go.Proofs.YtllckdidfjiggabDoor
