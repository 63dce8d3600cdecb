/-
  WatchReplays (up to the second form's size).
-/
import Derived.Test.YtoocpbpdoaplgaaDoorWtZ
import Derived.Test.YtoocpbpdoaplgaaDoorWtK
namespace Go.Proofs.YtoocpbpdoaplgaaDoor
open Go.RowKit
namespace Wt
theorem cut_row {α : Type} {K : Kd α} (ok : K.Ok) {B : Nat} {w : World} {a : Option Addr} {n c : Nat} {l : List α} {x : α} (h : OwnR K B w (.slice a n c) (l ++ [x])) : ∃ g, a = some ⟨g, 0, none⟩ ∧ n = l.length + 1 ∧ l.length + 1 ≤ c ∧ OwnR K B w (.slice (some ⟨g, 0, none⟩) l.length c) l := by
  have ht := OwnR.take ok h l.length (by simp)
  rw [List.take_left] at ht
  obtain ⟨h1, ⟨hv, hn⟩ | ⟨gb, cap', cur, hv, h2, h3, h4, h5⟩⟩ := h
  · simp at hn
  · simp only [Value.slice.injEq] at hv
    obtain ⟨e1, e2, e3⟩ := hv
    rw [List.length_append, List.length_singleton] at h4 e2
    subst e1 e3
    exact ⟨gb, rfl, e2, h4, ht⟩
set_option maxHeartbeats 16000000 in
set_option maxRecDepth 100000 in
theorem replays_walk (m : Ev) (kind : Int) (path : ByteArray) (nv lv : Value) (names : List ByteArray) (l : List Ev) (w : World) (hG : Gl m w) (hN : Row kT w nv names) (hL : Row kE w lv l) (hn : ∀ t ∈ names, t.size ≤ 1048576) (he : ∀ e ∈ l, e.n.size ≤ 1048576 ∧ e.p.size ≤ 1048576) (hl : names.length ≤ 1048576 ∧ l.length ≤ 1048576) :
    Calls Tryd.prog 8 #[.int .i64 kind, .string path, nv, lv] w fun e w' => e = .returned (.bool true) ∧ Below w.heap.size w w' := by
  have KN := Lib.hid (known_any m w hG)
  have G := Lib.hid hG
  have RN := Lib.hid hN
  have RL := Lib.hid hL
  have SZ : Hid ((∀ t ∈ names, t.size ≤ 1048576) ∧ (∀ e ∈ l, e.n.size ≤ 1048576 ∧ e.p.size ≤ 1048576) ∧ names.length ≤ 1048576 ∧ l.length ≤ 1048576) := Lib.hid ⟨hn, he, hl⟩
  obtain ⟨na, nc, rfl, hnc, hncm⟩ := hN.len
  obtain ⟨la, lc, rfl, hlc, hlcm⟩ := hL.len
  unfold maxLen at hncm hlcm
  obtain ⟨nn, hnn⟩ : ∃ n, n = names.length := ⟨_, rfl⟩
  obtain ⟨ln, hln⟩ : ∃ n, n = l.length := ⟨_, rfl⟩
  rw [← hnn] at RN hnc
  rw [← hln] at RL hlc
  rw [← hnn, ← hln]
  have HN : Hid (nn = names.length ∧ ln = l.length) := Lib.hid ⟨hnn, hln⟩
  have hl1 : nn ≤ 1048576 := by rw [hnn]; exact hl.1
  have hl2 : ln ≤ 1048576 := by rw [hln]; exact hl.2
  clear hG hN hL hn he hl hnn hln
  obtain ⟨mk, hmk⟩ : ∃ mk : ByteArray, mk = ⟨#[109, 97, 114, 107]⟩ := ⟨_, rfl⟩
  have HM := Lib.hid hmk
  clear hmk
  go_enter Tryd.func8, Tryd.ntmps8
  go_wp2_with fail
  refine KN.out.mono ?_
  rintro e w1 ⟨rfl, hb1⟩
  have B1 := Lib.hid hb1
  have BH := Lib.hid (behind_any m l (.slice la ln lc) w1 (G.out.below hb1) (RL.out.below hb1) (by have := SZ.out.2.2.2; omega))
  clear KN hb1
  go_wp2_with fail
  refine BH.out.mono ?_
  rintro e w2 ⟨xa, xn, xc, rfl, hx, hb2⟩
  obtain ⟨gx, rfl, ex, hxc, hx2⟩ := cut_row okE hx
  rw [← HN.out.2] at ex hxc hx2
  subst ex
  have W2 : Hid (Below w.heap.size w w2 ∧ OwnR kE w1.heap.size w2 (.slice (some ⟨gx, 0, none⟩) (ln + 1) xc) (l ++ [m]) ∧ OwnR kE w1.heap.size w2 (.slice (some ⟨gx, 0, none⟩) ln xc) l) := Lib.hid ⟨B1.out.trans (hb2.mono B1.out.size), hx, hx2⟩
  clear hx hx2 hb2 BH
  have L1 : Hid ((([] : List ByteArray).length + names.length) * kT.b ≤ 140737488355328) := Lib.hid (by have := SZ.out.2.2.1; show (0 + _) * 16 ≤ _; omega)
  have L2 : Hid ((names.length + 1) * kT.b ≤ 140737488355328) := Lib.hid (by have := SZ.out.2.2.1; show (_ + 1) * 16 ≤ _; omega)
  have M1 : True := trivial
  go_wp2_with (first
    | (at_builtin; clear M1; refine app_rows okT (B := w2.heap.size) (v := .slice none 0 0) (u := .slice na nn nc) (l := []) (m := names) rfl _ _ rfl rfl (OwnR.nil _ _ _) (Nat.le_refl _) rfl (RN.out.below W2.out.1) L1.out ?_; intro v3 w3 h3 g3; rw [List.nil_append] at h3
       obtain ⟨n3, a3, c3, rfl⟩ : ∃ n1 a1 c1, v3 = .slice a1 n1 c1 := by (obtain ⟨a', c', e'⟩ := h3.slice; exact ⟨_, a', c', e'⟩)
       have W3 : Hid (OwnR kT w2.heap.size w3 (.slice a3 n3 c3) names ∧ Below w2.heap.size w2 w3) := Lib.hid ⟨h3, (Below.refl _ w2).grown g3 (Nat.le_refl _) (fun j hj => by simp [Value.ownBlock] at hj)⟩
       clear h3 g3)
    | (at_builtin; refine app_rowB okT (gg := w3.heap.size) rfl _ _ rfl rfl W3.out.1 W3.out.2.size mk rfl (by rw [HM.out]; rfl) rfl L2.out ?_; intro v4 w4 h4 g4
       obtain ⟨n4, a4, c4, rfl⟩ : ∃ n1 a1 c1, v4 = .slice a1 n1 c1 := by (obtain ⟨a', c', e'⟩ := h4.slice; exact ⟨_, a', c', e'⟩)
       obtain ⟨gn, rfl, en, hnc4, hn4⟩ := cut_row okT h4
       rw [← HN.out.1] at en hnc4 hn4
       subst en
       have W4 : Hid (Below w2.heap.size w2 w4 ∧ OwnR kT w2.heap.size w4 (.slice (some ⟨gn, 0, none⟩) (nn + 1) c4) (names ++ [mk]) ∧ OwnR kT w2.heap.size w4 (.slice (some ⟨gn, 0, none⟩) nn c4) names) := Lib.hid ⟨W3.out.2.grown g4 W3.out.2.size (fun j hj => (W3.out.1.lt j hj).1), h4, hn4⟩
       clear h4 g4 hn4))
  have hb1' : (nn : Int) ≤ (c4 : Int) := by omega
  have hb2' : (0 : Int) ≤ (nn : Int) := by omega
  have hb3' : (ln : Int) ≤ (xc : Int) := by omega
  have hb4' : (0 : Int) ≤ (ln : Int) := by omega
  have BW : Hid (∀ W : World, Below w4.heap.size w4 W → Below w.heap.size w W ∧ Row kE W (.slice (some ⟨gx, 0, none⟩) (ln + 1) xc) (l ++ [m]) ∧ Row kE W (.slice (some ⟨gx, 0, none⟩) ln xc) l ∧ Row kT W (.slice (some ⟨gn, 0, none⟩) (nn + 1) c4) (names ++ [mk]) ∧ Row kT W (.slice (some ⟨gn, 0, none⟩) nn c4) names) := Lib.hid fun W hb => by
    have b2 := W4.out.1.trans (hb.mono W4.out.1.size)
    exact ⟨W2.out.1.trans (b2.mono W2.out.1.size), (W2.out.2.1.row okE).below b2, (W2.out.2.2.row okE).below b2, (W4.out.2.1.row okT).below hb, (W4.out.2.2.row okT).below hb⟩
  have RP := Lib.hid (replay_any kind path (.slice (some ⟨gn, 0, none⟩) nn c4) (.slice (some ⟨gx, 0, none⟩) ln xc) names l w4.drew (G.out.below (BW.out w4.drew (below_drawn w4 1)).1).hm (BW.out w4.drew (below_drawn w4 1)).2.2.2.2 (BW.out w4.drew (below_drawn w4 1)).2.2.1 (fun t ht => by have := SZ.out.1 t ht; omega) (fun e he => by have := (SZ.out.2.1 e he).1; omega) (by have := SZ.out.2.2; omega))
  clear W2 W3 W4 L1 L2
  go_wp2_with fail
  go_region_held3 (fun _ : World => True) (trivial) (
     (go_at_call 21
      refine RP.out.mono ?_
      rintro e w5 ⟨a5, n5, c5, F5, rfl, ho5, hr5, hb5⟩
      have W5 : Hid (Below w4.heap.size w4 w5 ∧ Row kT w5 (.slice a5 n5 c5) F5 ∧ Ri F5 (rpL kind path names l)) := Lib.hid ⟨(below_drawn w4 1).trans hb5, ho5.row okT, hr5⟩
      clear ho5 hr5 hb5))
  have RR := Lib.hid (rreplay_any kind path (.slice na nn nc) (.slice la ln lc) names l w5 (RN.out.below (BW.out w5 W5.out.1).1) (RL.out.below (BW.out w5 W5.out.1).1) SZ.out.2.1 SZ.out.2.2)
  go_wp2_with fail
  refine RR.out.mono ?_
  rintro e w6 ⟨a6, n6, c6, F6, rfl, ho6, hr6, hb6⟩
  have EF := hr6.one W5.out.2.2
  subst EF
  have W6 : Hid (Below w4.heap.size w4 w6 ∧ Row kT w6 (.slice a5 n5 c5) F6 ∧ Row kT w6 (.slice a6 n6 c6) F6) := Lib.hid ⟨W5.out.1.trans (hb6.mono W5.out.1.size), W5.out.2.1.below hb6, ho6.row okT⟩
  clear ho6 hr6 hb6 RR W5 RP
  have S6 := Lib.hid (sameTexts_yes _ _ _ w6 W6.out.2.1 W6.out.2.2)
  go_wp2_with fail
  refine S6.out.mono ?_
  rintro e w7 ⟨rfl, hb7⟩
  have W7 : Hid (Below w4.heap.size w4 w7) := Lib.hid (W6.out.1.trans (hb7.mono W6.out.1.size))
  clear hb7 S6 W6
  have BH := Lib.hid (behind_any m l (.slice la ln lc) w7 (G.out.below (BW.out w7 W7.out).1) (RL.out.below (BW.out w7 W7.out).1) (by have := SZ.out.2.2.2; omega))
  go_wp2_with fail
  refine BH.out.mono ?_
  rintro e w8 ⟨a8, n8, c8, rfl, ho8, hb8⟩
  have W8 : Hid (Below w4.heap.size w4 w8 ∧ Row kE w8 (.slice a8 n8 c8) (l ++ [m])) := Lib.hid ⟨W7.out.trans (hb8.mono W7.out.size), ho8.row okE⟩
  clear ho8 hb8 BH W7
  have S8 := Lib.hid (same_yes _ _ _ w8 (BW.out w8 W8.out.1).2.1 W8.out.2)
  go_wp2_with fail
  refine S8.out.mono ?_
  rintro e w9 ⟨rfl, hb9⟩
  have W9 : Hid (Below w4.heap.size w4 w9) := Lib.hid (W8.out.1.trans (hb9.mono W8.out.1.size))
  clear hb9 S8 W8
  have S9 := Lib.hid (sameTexts_yes _ _ _ w9 (BW.out w9 W9.out).2.2.2.2 (RN.out.below (BW.out w9 W9.out).1))
  go_wp2_with fail
  refine S9.out.mono ?_
  rintro e w10 ⟨rfl, hb10⟩
  have W10 : Hid (Below w4.heap.size w4 w10) := Lib.hid (W9.out.trans (hb10.mono W9.out.size))
  clear hb10 S9 W9
  have hk10 : (nn : Int) < ((nn + 1 : Nat) : Int) := by omega
  obtain ⟨b', off', eb, z0⟩ := rowT_at (BW.out w10 W10.out).2.2.2.1 nn (by rw [List.length_append, ← HN.out.1]; simp)
  simp only [Option.some.injEq, Addr.mk.injEq, and_true] at eb
  obtain ⟨rfl, rfl⟩ := eb
  rw [show (names ++ [mk]).getD nn ⟨#[]⟩ = mk by rw [HN.out.1, List.getD_eq_getElem?_getD]; simp, HM.out] at z0
  rw [Nat.zero_add] at z0
  have hk11 : (nn : Int) < (nn : Int) + 1 := by omega
  have B10 := Lib.hid (BW.out w10 W10.out).1
  go_wp2_with fail
  go_ret
  exact ⟨rfl, B10.out⟩
end Wt
end Go.Proofs.YtoocpbpdoaplgaaDoor
