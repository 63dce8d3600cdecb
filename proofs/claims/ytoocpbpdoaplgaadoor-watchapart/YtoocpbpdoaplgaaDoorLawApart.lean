/-
  WatchApart.
-/
import Derived.Test.YtoocpbpdoaplgaaDoorWtW
import Derived.Test.YtoocpbpdoaplgaaDoorWtM
import Derived.Test.YtoocpbpdoaplgaaDoorWtS
import Derived.Test.YtoocpbpdoaplgaaDoorWtY
import Derived.BigQuiet
namespace Go.Proofs.YtoocpbpdoaplgaaDoor
open Go.RowKit
namespace Wt
namespace Apt
theorem sub_len : ∀ (F ls : List ByteArray), F.Nodup → (∀ t ∈ F, t ∈ ls) → F.length ≤ ls.length := by
  intro F
  induction F with
  | nil => intro ls _ _; simp
  | cons a r ih =>
    intro ls hn hs
    have h1 := ih (ls.filter (fun t => decide (t ≠ a))) (List.nodup_cons.1 hn).2 (fun t ht => List.mem_filter.2 ⟨hs t (by simp [ht]), by
      simp only [decide_eq_true_eq]
      intro e
      rw [e] at ht
      exact (List.nodup_cons.1 hn).1 ht⟩)
    have h2 : (ls.filter (fun t => decide (t ≠ a))).length < ls.length := List.length_filter_lt_length_iff_exists.2 ⟨a, hs a (by simp), by simp⟩
    simp only [List.length_cons]
    omega
theorem rp_len (kind : Int) (path : ByteArray) (l : List Ev) : ∀ names : List ByteArray, (rpL kind path names l).length ≤ names.length + l.length := by
  unfold rpL
  induction l with
  | nil => intro names; simp
  | cons a r ih =>
    intro names
    rw [List.foldl_cons]
    have h1 := ih (rpS kind path names a)
    have h2 : (rpS kind path names a).length ≤ names.length + 1 := by
      unfold rpS
      split
      · split
        · exact Nat.le_trans (List.length_filter_le _ _) (by omega)
        · simp
      · omega
    simp only [List.length_cons]
    omega
theorem Ri.le {F ls : List ByteArray} (h : Ri F ls) : F.length ≤ ls.length :=
  sub_len F ls (h.1.imp fun {a b} hab e => by subst e; exact absurd hab (List.lt_irrefl _)) fun t ht => (h.2 t).1 ht
theorem root_path : L.splitE ⟨#[47]⟩ = 0 := by kernel_rfl
theorem cut_row {α : Type} {K : Kd α} (ok : K.Ok) {B : Nat} {w : World} {a : Option Addr} {n c : Nat} {l : List α} {x : α} (h : OwnR K B w (.slice a n c) (l ++ [x])) : ∃ g, a = some ⟨g, 0, none⟩ ∧ n = l.length + 1 ∧ l.length + 1 ≤ c ∧ OwnR K B w (.slice (some ⟨g, 0, none⟩) l.length c) l := by
  have ht := OwnR.take ok h l.length (by simp)
  rw [List.take_left] at ht
  obtain ⟨h1, ⟨hv, hn⟩ | ⟨gb, cap', cur, hv, h2, h3, h4, h5⟩⟩ := h
  · simp at hn
  · simp only [Value.slice.injEq] at hv
    obtain ⟨e1, e2, e3⟩ := hv
    rw [List.length_append, List.length_singleton] at h4 e2
    subst e1 e3
    exact ⟨gb, rfl, e2, h4, ht⟩
theorem rep_app {β : Type} {y d : β} {xs : List β} {n i : Nat} (h : i < n) : (List.replicate n y ++ xs).getD i d = y := by rw [List.getD_eq_getElem?_getD, List.getElem?_append_left (by rw [List.length_replicate]; exact h), List.getElem?_replicate, if_pos h]; rfl
theorem sin_len {s : St} (o : s.Ok) (ver : Int) (path : ByteArray) (most : Int) : (sinL s ver path most).length ≤ 128 := sinL_len o ver path most
theorem own_len {α : Type} {K : Kd α} {B : Nat} {w : World} {a : Option Addr} {n c : Nat} {l : List α} (h : OwnR K B w (.slice a n c) l) : n = l.length := by
  obtain ⟨q1, q2, e⟩ := h.slice
  simp only [Value.slice.injEq] at e
  exact e.2.1
set_option maxHeartbeats 64000000 in
set_option maxRecDepth 100000 in
theorem apart_walk (m : Ev) (u : Value) (ps : List (List Ev)) (nv : Value) (names : List ByteArray) (w : World) (hG : Gl m w) (hN : Nst w u ps) (hR : Row kT w nv names) (hn : ∀ t ∈ names, t.size ≤ 281474976710656) (hl : names.length * 16 ≤ 140737488351232) :
    Calls Tryd.prog 6 #[u, nv] w fun e w' => e = .returned (.bool true) ∧ Below w.heap.size w w' := by
  have KN := Lib.hid (known_any m w hG)
  have PU : Hid (∀ W : World, Below w.heap.size w W → Gl m W ∧ Row kT W nv names ∧ Calls Tryd.prog 10 #[.int .i64 0, u] W fun e w' => (e = .returned (.tuple #[.pointer none, .bool true]) ∧ Below W.heap.size W w') ∨
      ∃ gp g v vL s A, e = .returned (.tuple #[.pointer (some ⟨gp, 0, none⟩), .bool true]) ∧ Pd W w' gp g v vL (max 0 0) s A ∧ s.hi ≤ 576460752303423888 ∧ A.length ≤ 120000) := Lib.hid fun W hb => ⟨hG.below hb, hR.below hb, pushed_any m 0 u ps W (hG.below hb) (hN.below hb) ⟨by decide, by decide⟩⟩
  obtain ⟨f, hf⟩ : ∃ f : Int, f = max 0 0 := ⟨_, rfl⟩
  rw [← hf] at PU
  obtain ⟨na, nc, rfl, hnc, hncm⟩ := hR.len
  unfold maxLen at hncm
  obtain ⟨nn, hnn⟩ : ∃ n, n = names.length := ⟨_, rfl⟩
  have SZ : Hid ((∀ t ∈ names, t.size ≤ 281474976710656) ∧ nn = names.length) := Lib.hid ⟨hn, hnn⟩
  rw [← hnn] at PU hnc hl ⊢
  clear hG hN hf hR hn hnn
  obtain ⟨mk, hmk⟩ : ∃ mk : ByteArray, mk = ⟨#[109, 97, 114, 107]⟩ := ⟨_, rfl⟩
  have HM := Lib.hid hmk
  clear hmk
  go_enter Tryd.func6, Tryd.ntmps6
  go_wp2_with fail
  refine KN.out.mono ?_
  rintro e w1 ⟨rfl, hb1⟩
  have B1 := Lib.hid hb1
  have P1 := Lib.hid (PU.out w1 hb1)
  clear KN PU hb1
  go_wp2_with fail
  refine P1.out.2.2.mono ?_
  rintro e w2 (⟨rfl, hb2⟩ | ⟨gp, g, v, vL, s, A, rfl, hp, hhi, hlA⟩)
  · have B2 := Lib.hid (B1.out.trans (hb2.mono B1.out.size))
    clear hb2
    go_wp2_with fail
    go_ret
    exact ⟨rfl, B2.out⟩
  have PD := Lib.hid hp
  have B2 := Lib.hid (B1.out.trans (hp.h.be.mono B1.out.size))
  have G2 : Hid (∀ W : World, Below w2.heap.size w2 W → Pd w1 W gp g v vL f s A ∧ Gl m W ∧ Below w.heap.size w W ∧ Row kT W (.slice na nn nc) names) := Lib.hid fun W hb => ⟨PD.out.below hb, (P1.out.1.below (PD.out.h.be.trans (hb.mono PD.out.h.be.size))), B2.out.trans (hb.mono B2.out.size), P1.out.2.1.below (PD.out.h.be.trans (hb.mono PD.out.h.be.size))⟩
  obtain ⟨lo, hi, es⟩ := s
  obtain ⟨b0, b1, b2⟩ := hp.h.ok.b
  simp only at b0 b1 b2 hhi
  have OK := Lib.hid hp.h.ok
  have LW := Lib.hid (low_any w2 g v _ hp.h.h)
  have c0 : w2.cell? ⟨gp, 0, none⟩ = some (.pointer (some ⟨g, 0, none⟩)) := hp.c0
  clear hp hhi hlA
  have SE : Hid (sinE ⟨lo, hi, es⟩ lo ⟨#[47]⟩ 100 = 0) := Lib.hid (by unfold sinE; rw [if_neg (by omega), if_neg (by rw [root_path]; simp), if_neg (by simp), if_neg (by simp only; omega)])
  obtain ⟨I, hI⟩ : ∃ I, I = sinL ⟨lo, hi, es⟩ lo ⟨#[47]⟩ 100 := ⟨_, rfl⟩
  have IL : Hid (I.length ≤ 128 ∧ ∀ e ∈ I, e.n.size ≤ 32) := Lib.hid ⟨by rw [hI]; exact sinL_len OK.out _ _ _, fun e he => by
    rw [hI] at he
    have h1 := (sinL_mem OK.out he).2
    have h2 := PD.out.pu.es
    simp only at h1 h2
    rw [h2] at h1
    exact (right_sizes (PD.out.pu.r e (List.mem_filter.1 h1).1).2.2).2⟩
  have SC : Hid (∀ W : World, Pd w1 W gp g v vL f ⟨lo, hi, es⟩ A → Gl m W → Calls Tryd.prog 14 #[.pointer (some ⟨g, 0, none⟩), .int .i64 lo, .string ⟨#[47]⟩, .int .i64 100] W fun e w' => ∃ a n c x, e = .returned (.tuple #[.slice a n c, .int .i64 x, .int .i64 0]) ∧ Hid (OwnR kE W.heap.size w' (.slice a n c) I ∧ Below W.heap.size W w')) := Lib.hid fun W hP hG => by
    have h := since_any W g v ⟨lo, hi, es⟩ lo ⟨#[47]⟩ 100 hG.hm hP.h.h OK.out
    rw [SE.out] at h
    refine h.mono ?_
    rintro e w' ⟨a, n, c, x, rfl, hb, -, hs⟩
    refine ⟨a, n, c, x, rfl, Lib.hid ⟨?_, hb⟩⟩
    rw [hI]
    exact (hs SE.out).1
  clear hI
  go_wp2_with fail
  refine LW.out.mono ?_
  rintro e w2' ⟨rfl, rfl⟩
  clear LW
  go_wp2_with fail
  refine (SC.out _ PD.out (G2.out _ (Below.refl _ _)).2.1).mono ?_
  rintro e w3 ⟨a3, n3, c3, x3, rfl, H3⟩
  have c3' := (G2.out w3 H3.out.2).1.c0
  clear c0
  go_wp2_with fail
  refine (SC.out w3 (G2.out w3 H3.out.2).1 (G2.out w3 H3.out.2).2.1).mono ?_
  rintro e w4 ⟨a4, n4, c4, x4, rfl, H4⟩
  have B4 : Hid (Below w2'.heap.size w2' w4 ∧ w3.heap.size ≤ w4.heap.size) := Lib.hid ⟨H3.out.2.trans (H4.out.2.mono H3.out.2.size), H4.out.2.size⟩
  clear c3'
  have L1 : Hid ((([] : List ByteArray).length + names.length) * kT.b ≤ 140737488355328) := Lib.hid (by have := SZ.out.2; show (0 + _) * 16 ≤ _; omega)
  have L2 : Hid ((names.length + 1) * kT.b ≤ 140737488355328) := Lib.hid (by have := SZ.out.2; show (_ + 1) * 16 ≤ _; omega)
  have M1 : True := trivial
  go_wp2_with (first
    | (at_builtin; clear M1; refine app_rows okT (B := w4.heap.size) (v := .slice none 0 0) (u := .slice na nn nc) (l := []) (m := names) rfl _ _ rfl rfl (OwnR.nil _ _ _) (Nat.le_refl _) rfl (G2.out w4 B4.out.1).2.2.2 L1.out ?_; intro v5 w5 h5 g5; rw [List.nil_append] at h5
       obtain ⟨n5, a5, c5, rfl⟩ : ∃ n1 a1 c1, v5 = .slice a1 n1 c1 := by (obtain ⟨a', c', e'⟩ := h5.slice; exact ⟨_, a', c', e'⟩)
       have W5 : Hid (OwnR kT w4.heap.size w5 (.slice a5 n5 c5) names ∧ Below w4.heap.size w4 w5) := Lib.hid ⟨h5, (Below.refl _ w4).grown g5 (Nat.le_refl _) (fun j hj => by simp [Value.ownBlock] at hj)⟩
       clear h5 g5)
    | (at_builtin; refine app_rowB okT (gg := w5.heap.size) rfl _ _ rfl rfl W5.out.1 W5.out.2.size mk rfl (by rw [HM.out]; rfl) rfl L2.out ?_; intro v6 w6 h6 g6
       obtain ⟨n6, a6, c6, rfl⟩ : ∃ n1 a1 c1, v6 = .slice a1 n1 c1 := by (obtain ⟨a', c', e'⟩ := h6.slice; exact ⟨_, a', c', e'⟩)
       obtain ⟨gx, rfl, ex, hxc, hx6⟩ := cut_row okT h6
       rw [← SZ.out.2] at ex hxc hx6
       subst ex
       have W6 : Hid (Below w4.heap.size w4 w6 ∧ OwnR kT w4.heap.size w6 (.slice (some ⟨gx, 0, none⟩) (nn + 1) c6) (names ++ [mk]) ∧ OwnR kT w4.heap.size w6 (.slice (some ⟨gx, 0, none⟩) nn c6) names) := Lib.hid ⟨W5.out.2.grown g6 W5.out.2.size (fun j hj => (W5.out.1.lt j hj).1), h6, hx6⟩
       have hb1' : (nn : Int) ≤ (c6 : Int) := by omega
       have hb2' : (0 : Int) ≤ (nn : Int) := by omega
       clear h6 g6 hx6))
  have RP : Hid (∀ W : World, L.HasM W → Row kT W (.slice (some ⟨gx, 0, none⟩) nn c6) names → Row kE W (.slice a4 n4 c4) I → Calls Tryd.prog 21 #[.int .i64 3, .string ⟨#[47]⟩, .slice (some ⟨gx, 0, none⟩) nn c6, .slice a4 n4 c4] W fun e w' => ∃ a n c F, e = .returned (.slice a n c) ∧ Hid (OwnR kT W.heap.size w' (.slice a n c) F ∧ Ri F (rpL 3 ⟨#[47]⟩ names I) ∧ Below W.heap.size W w')) := Lib.hid fun W hm hx hb => by
    refine (replay_any 3 ⟨#[47]⟩ _ _ names I W hm hx hb SZ.out.1 (fun e he => by have := IL.out.2 e he; omega) (by have := SZ.out.2; have := IL.out.1; omega)).mono ?_
    rintro e w' ⟨a, n, c, F, rfl, h1, h2, h3⟩
    exact ⟨a, n, c, F, rfl, Lib.hid ⟨h1, h2, h3⟩⟩
  have B6 : Hid (Below w2'.heap.size w2' w6 ∧ OwnR kE w3.heap.size w6 (.slice a4 n4 c4) I ∧ OwnR kE w2'.heap.size w6 (.slice a3 n3 c3) I) := Lib.hid ⟨B4.out.1.trans (W6.out.1.mono B4.out.1.size), H4.out.1.below W6.out.1, (H3.out.1.below H4.out.2).below W6.out.1⟩
  go_wp2_with fail
  refine (RP.out w6 (G2.out w6 B6.out.1).2.1.hm (W6.out.2.2.row okT) (B6.out.2.1.row okE)).mono ?_
  rintro e w7 ⟨a7, n7, c7, F0, rfl, H7⟩
  have B7 : Hid (Below w2'.heap.size w2' w7 ∧ Below w6.heap.size w6 w7) := Lib.hid ⟨B6.out.1.trans (H7.out.2.2.mono B6.out.1.size), H7.out.2.2⟩
  go_wp2_with fail
  refine (RP.out w7 (G2.out w7 B7.out.1).2.1.hm ((W6.out.2.2.row okT).below B7.out.2) ((B6.out.2.1.row okE).below B7.out.2)).mono ?_
  rintro e w8 ⟨a8, n8, c8, F8, rfl, H8⟩
  have EF := H8.out.2.1.one H7.out.2.1
  subst EF
  have B8 : Hid (Below w2'.heap.size w2' w8 ∧ Below w6.heap.size w6 w8 ∧ Below w7.heap.size w7 w8) := Lib.hid ⟨B7.out.1.trans (H8.out.2.2.mono B7.out.1.size), B7.out.2.trans (H8.out.2.2.mono B7.out.2.size), H8.out.2.2⟩
  have FL : Hid (F8.length ≤ nn + 128) := Lib.hid (by
    have h1 := Ri.le H8.out.2.1
    have h2 := rp_len 3 ⟨#[47]⟩ I names
    have h3 := SZ.out.2
    have h4 := IL.out.1
    omega)
  have BH : Hid (∀ W : World, Gl m W → Row kE W (.slice a4 n4 c4) I → Calls Tryd.prog 22 #[.slice a4 n4 c4] W fun e w' => ∃ a n c, e = .returned (.slice a n c) ∧ Hid (OwnR kE W.heap.size w' (.slice a n c) (I ++ [m]) ∧ Below W.heap.size W w')) := Lib.hid fun W hG hb => by
    refine (behind_any m I _ W hG hb (by have := IL.out.1; omega)).mono ?_
    rintro e w' ⟨a, n, c, rfl, h1, h2⟩
    exact ⟨a, n, c, rfl, Lib.hid ⟨h1, h2⟩⟩
  go_wp2_with fail
  refine (BH.out w8 (G2.out w8 B8.out.1).2.1 ((B6.out.2.1.row okE).below B8.out.2.1)).mono ?_
  rintro e w9 ⟨a9, n9, c9, rfl, H9⟩
  have L3 : Hid ((([] : List ByteArray).length + F8.length) * kT.b ≤ 140737488355328) := Lib.hid (by have := FL.out; show (0 + _) * 16 ≤ _; omega)
  have R9 : Hid (Row kT w9 (.slice a8 n8 c8) F8) := Lib.hid ((H8.out.1.row okT).below H9.out.2)
  go_wp2_with (first
    | (at_builtin; refine app_rows okT (B := w9.heap.size) (v := .slice none 0 0) (u := .slice a8 n8 c8) (l := []) (m := F8) rfl _ _ rfl rfl (OwnR.nil _ _ _) (Nat.le_refl _) rfl R9.out L3.out ?_; intro v10 w10 h10 g10; rw [List.nil_append] at h10
       obtain ⟨n10, a10, c10, rfl⟩ : ∃ n1 a1 c1, v10 = .slice a1 n1 c1 := by (obtain ⟨a', c', e'⟩ := h10.slice; exact ⟨_, a', c', e'⟩)
       have W10 : Hid (OwnR kT w9.heap.size w10 (.slice a10 n10 c10) F8 ∧ Below w9.heap.size w9 w10) := Lib.hid ⟨h10, (Below.refl _ w9).grown g10 (Nat.le_refl _) (fun j hj => by simp [Value.ownBlock] at hj)⟩
       clear h10 g10))
  obtain ⟨Fx, hFx⟩ : ∃ Fx : Nat → Prop, Fx = fun k => some k = (Value.slice a3 n3 c3).ownBlock ∨ some k = (Value.slice a7 n7 c7).ownBlock := ⟨_, rfl⟩
  have XB : Hid (Below w8.heap.size w8 w10 ∧ Below w7.heap.size w7 w10 ∧ Below w6.heap.size w6 w10 ∧ Below w2'.heap.size w2' w10) := Lib.hid (by
    have x8 := H9.out.2.trans (W10.out.2.mono H9.out.2.size)
    have x7 := B8.out.2.2.trans (x8.mono B8.out.2.2.size)
    have x6 := B7.out.2.trans (x7.mono B7.out.2.size)
    exact ⟨x8, x7, x6, B6.out.1.trans (x6.mono B6.out.1.size)⟩)
  have SZS : Hid (w2'.heap.size ≤ w3.heap.size ∧ w3.heap.size ≤ w4.heap.size ∧ w4.heap.size ≤ w6.heap.size ∧ w6.heap.size ≤ w7.heap.size ∧ w7.heap.size ≤ w8.heap.size ∧ w8.heap.size ≤ w9.heap.size) := Lib.hid ⟨H3.out.2.size, H4.out.2.size, W6.out.1.size, H7.out.2.2.size, H8.out.2.2.size, H9.out.2.size⟩
  have KA : Hid (∀ k, some k = (Value.slice a3 n3 c3).ownBlock → w2'.heap.size ≤ k ∧ k < w3.heap.size) := Lib.hid fun k hk => H3.out.1.lt k hk.symm
  have KR : Hid (∀ k, some k = (Value.slice a7 n7 c7).ownBlock → w6.heap.size ≤ k ∧ k < w7.heap.size) := Lib.hid fun k hk => H7.out.1.lt k hk.symm
  have FB : Hid (∀ k, Fx k → w2'.heap.size ≤ k) := Lib.hid fun k hk => by
    rw [hFx] at hk
    have := SZS.out
    rcases hk with q | q
    · exact (KA.out k q).1
    · have := (KR.out k q).1; omega
  have ST : Hid (∀ W : World, Kept Fx w10 W → Pd w1 W gp g v vL f ⟨lo, hi, es⟩ A ∧ Gl m W ∧ Below w.heap.size w W ∧ Row kT W (.slice na nn nc) names ∧ Row kE W (.slice a4 n4 c4) I ∧ Row kE W (.slice a9 n9 c9) (I ++ [m]) ∧ Row kT W (.slice (some ⟨gx, 0, none⟩) (nn + 1) c6) (names ++ [mk]) ∧ Row kT W (.slice (some ⟨gx, 0, none⟩) nn c6) names ∧ Row kT W (.slice a8 n8 c8) F8 ∧ Row kT W (.slice a10 n10 c10) F8) := Lib.hid fun W hk => by
    have z := SZS.out
    have hbe : Below w2'.heap.size w2' W := XB.out.2.2.2.trans (hk.below XB.out.2.2.2.size FB.out)
    obtain ⟨q1, q2, q3, q4⟩ := G2.out W hbe
    have nF : ∀ k, (w3.heap.size ≤ k ∧ k < w6.heap.size) ∨ w7.heap.size ≤ k → ¬ Fx k := fun k hk q => by
      rw [hFx] at q
      rcases q with q | q
      · have := KA.out k q; omega
      · have := KR.out k q; omega
    refine ⟨q1, q2, q3, q4, ?_, ?_, ?_, ?_, ?_, ?_⟩
    · exact row_kept ((B6.out.2.1.row okE).below XB.out.2.2.1) hk (fun k hk => nF k (.inl (B6.out.2.1.lt k hk)))
    · exact row_kept ((H9.out.1.row okE).below W10.out.2) hk (fun k hk => nF k (.inr (by have := (H9.out.1.lt k hk).1; omega)))
    · exact rowT_kept ((W6.out.2.1.row okT).below XB.out.2.2.1) hk (fun k hk => nF k (.inl (by have := W6.out.2.1.lt k hk; omega)))
    · exact rowT_kept ((W6.out.2.2.row okT).below XB.out.2.2.1) hk (fun k hk => nF k (.inl (by have := W6.out.2.2.lt k hk; omega)))
    · exact rowT_kept ((H8.out.1.row okT).below XB.out.1) hk (fun k hk => nF k (.inr (H8.out.1.lt k hk).1))
    · exact rowT_kept (W10.out.1.row okT) hk (fun k hk => nF k (.inr (by have := (W10.out.1.lt k hk).1; omega)))
  have A0 : Hid (OwnR kE 0 w10 (.slice a3 n3 c3) I ∧ OwnR kT 0 w10 (.slice a7 n7 c7) F8) := Lib.hid ⟨(B6.out.2.2.below XB.out.2.2.1).mono (Nat.zero_le _), (H7.out.1.below XB.out.2.1).mono (Nat.zero_le _)⟩
  have LN : Hid (n3 = I.length ∧ n7 = F8.length) := Lib.hid ⟨own_len A0.out.1, own_len A0.out.2⟩
  have AP : Hid (∀ k, some k = (Value.slice a3 n3 c3).ownBlock → ¬ some k = (Value.slice a7 n7 c7).ownBlock) := Lib.hid fun k h1 h2 => by have := KA.out k h1; have := KR.out k h2; have := SZS.out; omega
  have FA : Hid (∀ k, Fx k ↔ (some k = (Value.slice a3 n3 c3).ownBlock ∨ some k = (Value.slice a7 n7 c7).ownBlock)) := Lib.hid fun k => by rw [hFx]
  have n3b : n3 ≤ 128 := by have := LN.out; have := IL.out; omega
  have n7b : n7 ≤ 8796093022100 := by have := LN.out; have := FL.out; omega
  have RI8 := Lib.hid H8.out.2.1
  clear hFx KA KR FB XB SZS W10 H9 R9 L3 H8 H7 B8 B7 B6 W6 W5 B4 H4 H3 L1 L2 PD
  have KT : Hid (∀ W W' : World, Kept Fx w10 W → Below W.heap.size W W' → Kept Fx w10 W') := Lib.hid fun W W' h1 h2 => h1.trans (Below.kept h2 (fun _ => False)) (fun _ _ q => q.elim)
  have S1 := Lib.hid (same_yes (.slice a3 n3 c3) (.slice a4 n4 c4) I w10 (A0.out.1.row okE) (ST.out w10 (Kept.refl _ _)).2.2.2.2.1)
  go_wp2_with fail
  refine S1.out.mono ?_
  rintro e w11 ⟨rfl, hb11⟩
  have W11 : Hid (Kept Fx w10 w11 ∧ OwnR kE 0 w11 (.slice a3 n3 c3) I ∧ OwnR kT 0 w11 (.slice a7 n7 c7) F8) := Lib.hid ⟨KT.out _ _ (Kept.refl _ _) hb11, A0.out.1.below hb11, A0.out.2.below hb11⟩
  clear hb11 S1 A0
  have S2 := Lib.hid (sameTexts_yes (.slice a7 n7 c7) (.slice a8 n8 c8) F8 w11 (W11.out.2.2.row okT) (ST.out w11 W11.out.1).2.2.2.2.2.2.2.2.1)
  go_wp2_with fail
  refine S2.out.mono ?_
  rintro e w12 ⟨rfl, hb12⟩
  have W12 : Hid (Kept Fx w10 w12 ∧ OwnR kE 0 w12 (.slice a3 n3 c3) I ∧ OwnR kT 0 w12 (.slice a7 n7 c7) F8) := Lib.hid ⟨KT.out _ _ W11.out.1 hb12, W11.out.2.1.below hb12, W11.out.2.2.below hb12⟩
  clear hb12 S2 W11
  obtain ⟨mv, mk0, mg, mp, mn⟩ := m
  go_wp2_with fail
  go_loopg [23] n3 (fun gk si wr => ∃ (i : Nat), i ≤ n3 ∧ gk = n3 - i ∧ si = .int .i64 i ∧ Hid (Kept Fx w10 wr ∧ OwnR kE 0 wr (.slice a3 n3 c3) (fl ⟨mv, mk0, mg, mp, mn⟩ I i) ∧ OwnR kT 0 wr (.slice a7 n7 c7) F8))
  case atStart => exact ⟨0, Nat.zero_le _, rfl, rfl, Lib.hid ⟨W12.out.1, W12.out.2.1, W12.out.2.2⟩⟩
  case round =>
    obtain ⟨i, hi1, hgk, rfl, R⟩ := hrel
    have GK := Lib.hid hgk
    clear hgk
    by_cases hlt : i < n3
    · have hlt' : (i : Int) < (n3 : Int) := by omega
      have hil : i < (fl ⟨mv, mk0, mg, mp, mn⟩ I i).length := by rw [fl_len _ _ _ (by rw [← LN.out.1]; exact hi1), ← LN.out.1]; exact hlt
      obtain ⟨ga, off, rfl, t0, t1, t2, t3, t4⟩ := row_at (R.out.2.1.row okE) i hil
      have ho : off = 0 := by
        obtain ⟨_, ⟨hv, _⟩ | ⟨gg, cap', cur, hv, _⟩⟩ := R.out.2.1
        · simp at hv
        · simp only [Value.slice.injEq, Option.some.injEq, Addr.mk.injEq, and_true] at hv
          exact hv.1.2
      subst ho
      simp only [Nat.zero_add] at t0 t1 t2 t3 t4
      have GL := (ST.out wr R.out.1).2.1
      have k0 : wr.cell? ⟨0, 0, none⟩ = some (.int .i64 mv) := GL.gm 0 _ rfl
      have k1 : wr.cell? ⟨0, 1, none⟩ = some (.int .i64 mk0) := GL.gm 1 _ rfl
      have k2 : wr.cell? ⟨0, 2, none⟩ = some (.bool mg) := GL.gm 2 _ rfl
      have k3 : wr.cell? ⟨0, 3, none⟩ = some (.string mp) := GL.gm 3 _ rfl
      have k4 : wr.cell? ⟨0, 4, none⟩ = some (.string mn) := GL.gm 4 _ rfl
      obtain ⟨cur, -, -, hg, -⟩ := R.out.2.1.parts
      have f0 := frozen_row hg (i * 5)
      have f1 := frozen_row hg (i * 5 + 1)
      have f2 := frozen_row hg (i * 5 + 2)
      have f3 := frozen_row hg (i * 5 + 3)
      have f4 := frozen_row hg (i * 5 + 4)
      clear hg GL
      have F2 := Lib.hid (fl_set (⟨mv, mk0, mg, mp, mn⟩ : Ev) I i (by rw [← LN.out.1]; exact hlt))
      have NA : Hid (∀ k, (Value.slice a7 n7 c7).ownBlock = some k → k ≠ ga) := Lib.hid fun k hk e => AP.out ga rfl (by rw [← e]; exact hk.symm)
      have FG : Hid (Fx ga) := Lib.hid ((FA.out ga).2 (.inl rfl))
      go_wp2_with fail
      go_roundg (n3 - (i + 1))
      case measure => have := GK.out; omega
      case rel =>
        refine ⟨i + 1, by omega, rfl, by go_num, Lib.hid ⟨?_, ?_, ?_⟩⟩
        · exact ((((R.out.1.trans (kept_set _ _ _ FG.out) (fun _ _ q => q)).trans (kept_set _ _ _ FG.out) (fun _ _ q => q)).trans (kept_set _ _ _ FG.out) (fun _ _ q => q)).trans (kept_set _ _ _ FG.out) (fun _ _ q => q)).trans (kept_set _ _ _ FG.out) (fun _ _ q => q)
        · have h := own_setE R.out.2.1 i hil ⟨mv, mk0, mg, mp, mn⟩
          rw [F2.out] at h
          exact h
        · exact ((((R.out.2.2.kept (kept_set (F := fun y => y = ga) _ _ _ rfl) NA.out).kept (kept_set (F := fun y => y = ga) _ _ _ rfl) NA.out).kept (kept_set (F := fun y => y = ga) _ _ _ rfl) NA.out).kept (kept_set (F := fun y => y = ga) _ _ _ rfl) NA.out).kept (kept_set (F := fun y => y = ga) _ _ _ rfl) NA.out
    · have hin : ¬ (i : Int) < (n3 : Int) := by omega
      have EI : Hid (fl (⟨mv, mk0, mg, mp, mn⟩ : Ev) I i = List.replicate n3 ⟨mv, mk0, mg, mp, mn⟩) := Lib.hid (by rw [show i = I.length by have := LN.out.1; omega, fl_all, LN.out.1])
      rw [EI.out] at R
      obtain ⟨w13, rfl⟩ : ∃ w13, w13 = wr := ⟨_, rfl⟩
      clear W12
      go_wp2_with fail
      go_loopg [24] n7 (fun gk si wr => ∃ (j : Nat), j ≤ n7 ∧ gk = n7 - j ∧ si = .int .i64 j ∧ Hid (Kept Fx w10 wr ∧ OwnR kE 0 wr (.slice a3 n3 c3) (List.replicate n3 ⟨mv, mk0, mg, mp, mn⟩) ∧ OwnR kT 0 wr (.slice a7 n7 c7) (fl ⟨#[119]⟩ F8 j)))
      case atStart => exact ⟨0, Nat.zero_le _, rfl, rfl, Lib.hid ⟨R.out.1, R.out.2.1, R.out.2.2⟩⟩
      case round =>
        clear R
        obtain ⟨j, hj1, hgj, rfl, R⟩ := hrel
        have GJ := Lib.hid hgj
        clear hgj
        by_cases hjt : j < n7
        · have hjt' : (j : Int) < (n7 : Int) := by omega
          have hjl : j < (fl ⟨#[119]⟩ F8 j).length := by rw [fl_len _ _ _ (by rw [← LN.out.2]; exact hj1), ← LN.out.2]; exact hjt
          obtain ⟨gr, off, rfl, t0⟩ := rowT_at (R.out.2.2.row okT) j hjl
          have ho : off = 0 := by
            obtain ⟨_, ⟨hv, _⟩ | ⟨gg, cap', cur, hv, _⟩⟩ := R.out.2.2
            · simp at hv
            · simp only [Value.slice.injEq, Option.some.injEq, Addr.mk.injEq, and_true] at hv
              exact hv.1.2
          subst ho
          simp only [Nat.zero_add] at t0
          obtain ⟨cur, -, -, hg, -⟩ := R.out.2.2.parts
          have f0 := frozen_row hg j
          clear hg
          have F2 := Lib.hid (fl_set (⟨#[119]⟩ : ByteArray) F8 j (by rw [← LN.out.2]; exact hjt))
          have NA : Hid (∀ k, (Value.slice a3 n3 c3).ownBlock = some k → k ≠ gr) := Lib.hid fun k hk e => AP.out k hk.symm (by rw [e]; rfl)
          have FG : Hid (Fx gr) := Lib.hid ((FA.out gr).2 (.inr rfl))
          go_wp2_with fail
          go_roundg (n7 - (j + 1))
          case measure => have := GJ.out; omega
          case rel =>
            refine ⟨j + 1, by omega, rfl, by go_num, Lib.hid ⟨R.out.1.trans (kept_set _ _ _ FG.out) (fun _ _ q => q), R.out.2.1.kept (kept_set (F := fun y => y = gr) _ _ _ rfl) NA.out, ?_⟩⟩
            have h := own_setT R.out.2.2 j hjl ⟨#[119]⟩
            rw [F2.out] at h
            exact h
        · have hjn : ¬ (j : Int) < (n7 : Int) := by omega
          have EJ : Hid (fl (⟨#[119]⟩ : ByteArray) F8 j = List.replicate n7 ⟨#[119]⟩) := Lib.hid (by rw [show j = F8.length by have := LN.out.2; omega, fl_all, LN.out.2])
          rw [EJ.out] at R
          obtain ⟨w14, rfl⟩ : ∃ w14, w14 = wr := ⟨_, rfl⟩
          go_wp2_with fail
          refine (BH.out w14 (ST.out w14 R.out.1).2.1 (ST.out w14 R.out.1).2.2.2.2.1).mono ?_
          rintro e w15 ⟨a15, n15, c15, rfl, H15⟩
          have W15 : Hid (Kept Fx w10 w15 ∧ OwnR kE 0 w15 (.slice a3 n3 c3) (List.replicate n3 ⟨mv, mk0, mg, mp, mn⟩) ∧ OwnR kT 0 w15 (.slice a7 n7 c7) (List.replicate n7 ⟨#[119]⟩)) := Lib.hid ⟨KT.out _ _ R.out.1 H15.out.2, R.out.2.1.below H15.out.2, R.out.2.2.below H15.out.2⟩
          have S15 := Lib.hid (same_yes (.slice a15 n15 c15) (.slice a9 n9 c9) _ w15 (H15.out.1.row okE) (ST.out w15 W15.out.1).2.2.2.2.2.1)
          go_wp2_with fail
          refine S15.out.mono ?_
          rintro e w16 ⟨rfl, hb16⟩
          have W16 : Hid (Kept Fx w10 w16 ∧ OwnR kE 0 w16 (.slice a3 n3 c3) (List.replicate n3 ⟨mv, mk0, mg, mp, mn⟩) ∧ OwnR kT 0 w16 (.slice a7 n7 c7) (List.replicate n7 ⟨#[119]⟩)) := Lib.hid ⟨KT.out _ _ W15.out.1 hb16, W15.out.2.1.below hb16, W15.out.2.2.below hb16⟩
          clear hb16 S15 W15 H15 R
          have S16 := Lib.hid (sameTexts_yes (.slice a8 n8 c8) (.slice a10 n10 c10) _ w16 (ST.out w16 W16.out.1).2.2.2.2.2.2.2.2.1 (ST.out w16 W16.out.1).2.2.2.2.2.2.2.2.2)
          go_wp2_with fail
          refine S16.out.mono ?_
          rintro e w17 ⟨rfl, hb17⟩
          have W17 : Hid (Kept Fx w10 w17 ∧ OwnR kE 0 w17 (.slice a3 n3 c3) (List.replicate n3 ⟨mv, mk0, mg, mp, mn⟩) ∧ OwnR kT 0 w17 (.slice a7 n7 c7) (List.replicate n7 ⟨#[119]⟩)) := Lib.hid ⟨KT.out _ _ W16.out.1 hb17, W16.out.2.1.below hb17, W16.out.2.2.below hb17⟩
          clear hb17 S16 W16
          obtain ⟨ev, hev⟩ : ∃ ev : Ev, ev = ⟨1, 3, true, ⟨#[47, 118]⟩, ⟨#[118]⟩⟩ := ⟨_, rfl⟩
          have HV := Lib.hid hev
          clear hev
          have GLd : Hid (∀ W : World, Below w17.heap.size w17 W → ∀ i y, (kE.c ⟨mv, mk0, mg, mp, mn⟩)[i]? = some y → W.cell? ⟨0, i, none⟩ = some y) := Lib.hid fun W hb => (ST.out W (KT.out _ _ W17.out.1 hb)).2.1.gm
          have BD := Lib.hid (below_drawn w17 1)
          have k0 : w17.drew.cell? ⟨0, 0, none⟩ = some (.int .i64 mv) := GLd.out _ BD.out 0 _ rfl
          have k1 : w17.drew.cell? ⟨0, 1, none⟩ = some (.int .i64 mk0) := GLd.out _ BD.out 1 _ rfl
          have k2 : w17.drew.cell? ⟨0, 2, none⟩ = some (.bool mg) := GLd.out _ BD.out 2 _ rfl
          have k3 : w17.drew.cell? ⟨0, 3, none⟩ = some (.string mp) := GLd.out _ BD.out 3 _ rfl
          have k4 : w17.drew.cell? ⟨0, 4, none⟩ = some (.string mn) := GLd.out _ BD.out 4 _ rfl
          have ON : Hid (Calls Tryd.prog 24 #[.int .i64 1, .bool true, .string ⟨#[47, 118]⟩, .string ⟨#[118]⟩] w17.drew fun e w' => ∃ V, e = .returned V ∧ V = .agg #[.int .i64 1, .int .i64 3, .bool true, .string ⟨#[47, 118]⟩, .string ⟨#[118]⟩] ∧ Below w17.drew.heap.size w17.drew w') := Lib.hid ((one_any 1 true ⟨#[47, 118]⟩ ⟨#[118]⟩ w17.drew).mono fun _ _ q => ⟨_, q.1, rfl, q.2⟩)
          have LA : Hid (((List.replicate n3 (⟨mv, mk0, mg, mp, mn⟩ : Ev)).length + [ev, ⟨mv, mk0, mg, mp, mn⟩].length) * kE.b ≤ 140737488355328) := Lib.hid (by rw [List.length_replicate]; show (_ + 2) * 56 ≤ _; omega)
          go_wp2_with fail
          go_region_law (first
            | (refine step_calls (enters _ _ Tryd.func24 (by kernel_rfl) (by kernel_rfl)) rfl #[.const (.int .i64 1), .const (.bool true), .const (.string ⟨#[47, 118]⟩), .const (.string ⟨#[118]⟩)] _ rfl (us := #[.int .i64 1, .bool true, .string ⟨#[47, 118]⟩, .string ⟨#[118]⟩]) (by simp only [List.map_toArray, List.map_cons, List.map_nil]; rfl) ON.out ?_; intro V1 y1 q1; obtain ⟨rfl, hb1⟩ := q1.out
               have B1y : Hid (Below w17.heap.size w17 y1) := Lib.hid (BD.out.trans hb1)
               have j0 : y1.cell? ⟨0, 0, none⟩ = some (.int .i64 mv) := GLd.out _ B1y.out 0 _ rfl
               have j1 : y1.cell? ⟨0, 1, none⟩ = some (.int .i64 mk0) := GLd.out _ B1y.out 1 _ rfl
               have j2 : y1.cell? ⟨0, 2, none⟩ = some (.bool mg) := GLd.out _ B1y.out 2 _ rfl
               have j3 : y1.cell? ⟨0, 3, none⟩ = some (.string mp) := GLd.out _ B1y.out 3 _ rfl
               have j4 : y1.cell? ⟨0, 4, none⟩ = some (.string mn) := GLd.out _ B1y.out 4 _ rfl
               have Y1 : Hid (Kept Fx w10 (y1.alloc (.cells (cellsR kE [ev, ⟨mv, mk0, mg, mp, mn⟩]).toArray 33)) ∧ OwnR kE 0 (y1.alloc (.cells (cellsR kE [ev, ⟨mv, mk0, mg, mp, mn⟩]).toArray 33)) (.slice a3 n3 c3) (List.replicate n3 ⟨mv, mk0, mg, mp, mn⟩) ∧ OwnR kT 0 (y1.alloc (.cells (cellsR kE [ev, ⟨mv, mk0, mg, mp, mn⟩]).toArray 33)) (.slice a7 n7 c7) (List.replicate n7 ⟨#[119]⟩) ∧ Row kE (y1.alloc (.cells (cellsR kE [ev, ⟨mv, mk0, mg, mp, mn⟩]).toArray 33)) (.slice (some ⟨y1.heap.size, 0, none⟩) 2 2) [ev, ⟨mv, mk0, mg, mp, mn⟩]) := Lib.hid (by
                 have hb := B1y.out.alloc B1y.out.size (.cells (cellsR kE [ev, ⟨mv, mk0, mg, mp, mn⟩]).toArray 33)
                 exact ⟨KT.out _ _ W17.out.1 hb, W17.out.2.1.below hb, W17.out.2.2.below hb, (row_built y1 [ev, ⟨mv, mk0, mg, mp, mn⟩] okE rfl rfl (by show 2 ≤ _; decide)).row okE⟩)
               rw [HV.out] at Y1 LA
               clear hb1 q1)
            | (refine step_keep okE rfl (.tmp 135) (.tmp 138) rfl (B := 0) rfl Y1.out.2.1 (Nat.zero_le _) rfl Y1.out.2.2.2 (by simp) LA.out ?_; intro a18 n18 c18 w18 q18
               have W18 : Hid (Kept Fx w10 w18 ∧ OwnR kE 0 w18 (.slice a18 n18 c18) (List.replicate n3 ⟨mv, mk0, mg, mp, mn⟩ ++ [⟨1, 3, true, ⟨#[47, 118]⟩, ⟨#[118]⟩⟩, ⟨mv, mk0, mg, mp, mn⟩]) ∧ Row kE w18 (.slice a3 n3 c3) (List.replicate n3 ⟨mv, mk0, mg, mp, mn⟩) ∧ OwnR kT 0 w18 (.slice a7 n7 c7) (List.replicate n7 ⟨#[119]⟩)) := Lib.hid ⟨Y1.out.1.trans (grown_kept q18.out.2.2.1) (fun x _ q => (FA.out x).2 (.inl q)), q18.out.1, q18.out.2.1, Y1.out.2.2.1.grownO q18.out.2.2.1 (fun k hk e => AP.out k e hk.symm)⟩
               clear q18))
          all_goals
            clear k0 k1 k2 k3 k4
            have LR : Hid (((List.replicate n7 (⟨#[119]⟩ : ByteArray)).length + [(⟨#[118]⟩ : ByteArray), ⟨#[117]⟩].length) * kT.b ≤ 140737488355328) := Lib.hid (by rw [List.length_replicate]; show (_ + 2) * 16 ≤ _; omega)
            have X18 : Hid (Kept Fx w10 (w18.alloc (.cells #[.string ⟨#[118]⟩, .string ⟨#[117]⟩] 9)) ∧ OwnR kE 0 (w18.alloc (.cells #[.string ⟨#[118]⟩, .string ⟨#[117]⟩] 9)) (.slice a18 n18 c18) (List.replicate n3 ⟨mv, mk0, mg, mp, mn⟩ ++ [⟨1, 3, true, ⟨#[47, 118]⟩, ⟨#[118]⟩⟩, ⟨mv, mk0, mg, mp, mn⟩]) ∧ Row kE (w18.alloc (.cells #[.string ⟨#[118]⟩, .string ⟨#[117]⟩] 9)) (.slice a3 n3 c3) (List.replicate n3 ⟨mv, mk0, mg, mp, mn⟩) ∧ OwnR kT 0 (w18.alloc (.cells #[.string ⟨#[118]⟩, .string ⟨#[117]⟩] 9)) (.slice a7 n7 c7) (List.replicate n7 ⟨#[119]⟩) ∧ Row kT (w18.alloc (.cells #[.string ⟨#[118]⟩, .string ⟨#[117]⟩] 9)) (.slice (some ⟨w18.heap.size, 0, none⟩) 2 2) [⟨#[118]⟩, ⟨#[117]⟩]) := Lib.hid (by
              have hb := (below_alR w18).out (.cells #[.string ⟨#[118]⟩, .string ⟨#[117]⟩] 9)
              exact ⟨KT.out _ _ W18.out.1 hb, W18.out.2.1.below hb, W18.out.2.2.1.below hb, W18.out.2.2.2.below hb, (row_built (K := kT) w18 [(⟨#[118]⟩ : ByteArray), ⟨#[117]⟩] okT (cs := #[.string ⟨#[118]⟩, .string ⟨#[117]⟩]) (n := 2) rfl rfl (by show 2 ≤ _; decide)).row okT⟩)
            go_wp2_with (first
              | (at_builtin; refine app_keep okT (B := 0) (v := .slice a7 n7 c7) (u := .slice (some ⟨w18.heap.size, 0, none⟩) 2 2) rfl _ _ rfl rfl X18.out.2.2.2.1 (Nat.zero_le _) rfl X18.out.2.2.2.2 (by simp) LR.out ?_; intro a19 n19 c19 w19 q19
                 have W19 : Hid (Kept Fx w10 w19 ∧ Row kE w19 (.slice a18 n18 c18) (List.replicate n3 ⟨mv, mk0, mg, mp, mn⟩ ++ [⟨1, 3, true, ⟨#[47, 118]⟩, ⟨#[118]⟩⟩, ⟨mv, mk0, mg, mp, mn⟩]) ∧ Row kE w19 (.slice a3 n3 c3) (List.replicate n3 ⟨mv, mk0, mg, mp, mn⟩) ∧ Row kT w19 (.slice a19 n19 c19) (List.replicate n7 ⟨#[119]⟩ ++ [⟨#[118]⟩, ⟨#[117]⟩]) ∧ Row kT w19 (.slice a7 n7 c7) (List.replicate n7 ⟨#[119]⟩)) := Lib.hid ⟨X18.out.1.trans (grown_kept q19.out.2.2.1) (fun x _ q => (FA.out x).2 (.inr q)), (X18.out.2.1.grownO q19.out.2.2.1 (fun k hk e => OwnR.apart X18.out.2.1 X18.out.2.2.2.1 (by decide) k hk e)).row okE, row_kept X18.out.2.2.1 (grown_kept q19.out.2.2.1) (fun k hk e => AP.out k hk.symm e), q19.out.1.row okT, q19.out.2.1⟩
                 have N18 : Hid (n18 = n3 + 2 ∧ n19 = n7 + 2) := Lib.hid ⟨by have h := own_len W18.out.2.1; rw [List.length_append, List.length_replicate] at h; exact h, by have h := own_len q19.out.1; rw [List.length_append, List.length_replicate] at h; exact h⟩
                 clear q19))
            have WB : Hid (∀ W : World, Below w19.heap.size w19 W → Kept Fx w10 W ∧ Row kE W (.slice a18 n18 c18) (List.replicate n3 ⟨mv, mk0, mg, mp, mn⟩ ++ [⟨1, 3, true, ⟨#[47, 118]⟩, ⟨#[118]⟩⟩, ⟨mv, mk0, mg, mp, mn⟩]) ∧ Row kE W (.slice a3 n3 c3) (List.replicate n3 ⟨mv, mk0, mg, mp, mn⟩) ∧ Row kT W (.slice a19 n19 c19) (List.replicate n7 ⟨#[119]⟩ ++ [⟨#[118]⟩, ⟨#[117]⟩]) ∧ Row kT W (.slice a7 n7 c7) (List.replicate n7 ⟨#[119]⟩)) := Lib.hid fun W hb => ⟨KT.out _ _ W19.out.1 hb, W19.out.2.1.below hb, W19.out.2.2.1.below hb, W19.out.2.2.2.1.below hb, W19.out.2.2.2.2.below hb⟩
            clear X18 LR W18 W17 W19
            go_wp2_with fail
            go_loopg [25] n3 (fun gk si wr => ∃ (k : Nat), k ≤ n3 ∧ gk = n3 - k ∧ si = .int .i64 k ∧ Hid (Below w19.heap.size w19 wr))
            case atStart => exact ⟨0, Nat.zero_le _, rfl, rfl, Lib.hid (Below.refl _ _)⟩
            case round =>
              obtain ⟨k, hk1, hgk, rfl, R⟩ := hrel
              have GK := Lib.hid hgk
              clear hgk
              obtain ⟨w20, rfl⟩ : ∃ w20, w20 = wr := ⟨_, rfl⟩
              have BX : Hid (Below w19.heap.size w19 w20) := Lib.hid (R.out)
              by_cases hkt : k < n3
              · have hkt' : (k : Int) < (n3 : Int) := by omega
                obtain ⟨bb, off, rfl, t0, t1, t2, t3, t4⟩ := row_at (WB.out w20 BX.out).2.1 k (by rw [List.length_append, List.length_replicate]; omega)
                rw [rep_app hkt] at t0 t1 t2 t3 t4
                simp only at t0 t1 t2 t3 t4
                have GL := (ST.out w20 (WB.out w20 BX.out).1).2.1
                have k0 : w20.cell? ⟨0, 0, none⟩ = some (.int .i64 mv) := GL.gm 0 _ rfl
                have k1 : w20.cell? ⟨0, 1, none⟩ = some (.int .i64 mk0) := GL.gm 1 _ rfl
                have k2 : w20.cell? ⟨0, 2, none⟩ = some (.bool mg) := GL.gm 2 _ rfl
                have k3 : w20.cell? ⟨0, 3, none⟩ = some (.string mp) := GL.gm 3 _ rfl
                have k4 : w20.cell? ⟨0, 4, none⟩ = some (.string mn) := GL.gm 4 _ rfl
                have hkn : (k : Int) < (n18 : Int) := by have := N18.out; omega
                clear GL
                go_wp2_with fail
                go_quiet (fail)
                go_wp2_with fail
                go_roundg (n3 - (k + 1))
                case measure => have := GK.out; omega
                case rel => exact ⟨k + 1, by omega, rfl, by go_num, Lib.hid (R.out.trans ((below_drawn w20 nq).mono R.out.size))⟩
              · have hktn : ¬ (k : Int) < (n3 : Int) := by omega
                go_wp2_with fail
                go_loopg [26] n7 (fun gk si wr => ∃ (k : Nat), k ≤ n7 ∧ gk = n7 - k ∧ si = .int .i64 k ∧ wr = w20)
                case atStart => exact ⟨0, Nat.zero_le _, rfl, rfl, rfl⟩
                case round =>
                  obtain ⟨k, hk1, hgk, rfl, rfl⟩ := hrel
                  have GK := Lib.hid hgk
                  clear hgk
                  by_cases hkt : k < n7
                  · have hkt' : (k : Int) < (n7 : Int) := by omega
                    obtain ⟨bb, off, rfl, t0⟩ := rowT_at (WB.out wr BX.out).2.2.2.1 k (by rw [List.length_append, List.length_replicate]; omega)
                    rw [rep_app hkt] at t0
                    have hkn : (k : Int) < (n19 : Int) := by have := N18.out; omega
                    go_wp2_with fail
                    go_roundg (n7 - (k + 1))
                    case measure => have := GK.out; omega
                    case rel => exact ⟨k + 1, by omega, rfl, by go_num, rfl⟩
                  · have hktn : ¬ (k : Int) < (n7 : Int) := by omega
                    have c20 := (ST.out wr (WB.out wr BX.out).1).1.c0
                    go_wp2_with fail
                    refine (SC.out wr (ST.out wr (WB.out wr BX.out).1).1 (ST.out wr (WB.out wr BX.out).1).2.1).mono ?_
                    rintro e w22 ⟨a22, n22, c22, x22, rfl, H22⟩
                    have B22 : Hid (Below w19.heap.size w19 w22) := Lib.hid (BX.out.trans (H22.out.2.mono BX.out.size))
                    clear c20
                    go_wp2_with fail
                    refine (RP.out w22 (ST.out w22 (WB.out w22 B22.out).1).2.1.hm (ST.out w22 (WB.out w22 B22.out).1).2.2.2.2.2.2.2.1 (ST.out w22 (WB.out w22 B22.out).1).2.2.2.2.1).mono ?_
                    rintro e w23 ⟨a23, n23, c23, F23, rfl, H23⟩
                    have E23 := H23.out.2.1.one RI8.out
                    subst E23
                    have B23 : Hid (Below w19.heap.size w19 w23) := Lib.hid (B22.out.trans (H23.out.2.2.mono B22.out.size))
                    have WC : Hid (∀ W : World, Below w23.heap.size w23 W → Row kE W (.slice a22 n22 c22) I ∧ Row kT W (.slice a23 n23 c23) F23) := Lib.hid fun W hb => ⟨((H22.out.1.row okE).below H23.out.2.2).below hb, (H23.out.1.row okT).below hb⟩
                    clear BX
                    go_wp2_with fail
                    go_loopg [31] n3 (fun gk si wr => ∃ (k : Nat), k ≤ n3 ∧ gk = n3 - k ∧ si = .int .i64 k ∧ Hid (Below w23.heap.size w23 wr))
                    case atStart => exact ⟨0, Nat.zero_le _, rfl, rfl, Lib.hid (Below.refl _ _)⟩
                    case round =>
                      obtain ⟨k, hk1, hgk, rfl, R⟩ := hrel
                      have GK := Lib.hid hgk
                      clear hgk
                      obtain ⟨w24, rfl⟩ : ∃ w24, w24 = wr := ⟨_, rfl⟩
                      have BX : Hid (Below w19.heap.size w19 w24) := Lib.hid (B23.out.trans (R.out.mono B23.out.size))
                      by_cases hkt : k < n3
                      · have hkt' : (k : Int) < (n3 : Int) := by omega
                        obtain ⟨bb, off, rfl, t0, t1, t2, t3, t4⟩ := row_at (WB.out w24 BX.out).2.2.1 k (by rw [List.length_replicate]; exact hkt)
                        rw [rep_at hkt] at t0 t1 t2 t3 t4
                        simp only at t0 t1 t2 t3 t4
                        have GL := (ST.out w24 (WB.out w24 BX.out).1).2.1
                        have k0 : w24.cell? ⟨0, 0, none⟩ = some (.int .i64 mv) := GL.gm 0 _ rfl
                        have k1 : w24.cell? ⟨0, 1, none⟩ = some (.int .i64 mk0) := GL.gm 1 _ rfl
                        have k2 : w24.cell? ⟨0, 2, none⟩ = some (.bool mg) := GL.gm 2 _ rfl
                        have k3 : w24.cell? ⟨0, 3, none⟩ = some (.string mp) := GL.gm 3 _ rfl
                        have k4 : w24.cell? ⟨0, 4, none⟩ = some (.string mn) := GL.gm 4 _ rfl
                        have hkn : (k : Int) < (n3 : Int) := by have := N18.out; omega
                        clear GL
                        go_wp2_with fail
                        go_quiet (fail)
                        go_wp2_with fail
                        go_roundg (n3 - (k + 1))
                        case measure => have := GK.out; omega
                        case rel => exact ⟨k + 1, by omega, rfl, by go_num, Lib.hid (R.out.trans ((below_drawn w24 nq).mono R.out.size))⟩
                      · have hktn : ¬ (k : Int) < (n3 : Int) := by omega
                        have R25 := R
                        go_wp2_with fail
                        go_loopg [32] n7 (fun gk si wr => ∃ (k : Nat), k ≤ n7 ∧ gk = n7 - k ∧ si = .int .i64 k ∧ wr = w24)
                        case atStart => exact ⟨0, Nat.zero_le _, rfl, rfl, rfl⟩
                        case round =>
                          obtain ⟨k, hk1, hgk, rfl, rfl⟩ := hrel
                          have GK := Lib.hid hgk
                          clear hgk
                          by_cases hkt : k < n7
                          · have hkt' : (k : Int) < (n7 : Int) := by omega
                            obtain ⟨bb, off, rfl, t0⟩ := rowT_at (WB.out wr BX.out).2.2.2.2 k (by rw [List.length_replicate]; exact hkt)
                            rw [rep_at hkt] at t0
                            have hkn : (k : Int) < (n7 : Int) := by have := N18.out; omega
                            go_wp2_with fail
                            go_roundg (n7 - (k + 1))
                            case measure => have := GK.out; omega
                            case rel => exact ⟨k + 1, by omega, rfl, by go_num, rfl⟩
                          · have hktn : ¬ (k : Int) < (n7 : Int) := by omega
                            have S25 := Lib.hid (same_yes (.slice a22 n22 c22) (.slice a4 n4 c4) I wr (WC.out wr R25.out).1 (ST.out wr (WB.out wr BX.out).1).2.2.2.2.1)
                            have hs1 : (n18 : Int) = (n3 : Int) + 2 := by have := N18.out; omega
                            have hs2 : (n19 : Int) = (n7 : Int) + 2 := by have := N18.out; omega
                            have hs3 : IntKind.i64.wrap ((n3 : Int) + 2) = (n18 : Int) := by rw [IntKind.wrap_i64]; omega
                            have hs4 : IntKind.i64.wrap ((n7 : Int) + 2) = (n19 : Int) := by rw [IntKind.wrap_i64]; omega
                            go_wp2_with fail
                            refine S25.out.mono ?_
                            rintro e w26 ⟨rfl, hb26⟩
                            have B26 : Hid (Below w19.heap.size w19 w26 ∧ Below w23.heap.size w23 w26) := Lib.hid ⟨BX.out.trans (hb26.mono BX.out.size), R25.out.trans (hb26.mono R25.out.size)⟩
                            clear hb26 S25
                            go_wp2_with fail
                            refine (BH.out w26 (ST.out w26 (WB.out w26 B26.out.1).1).2.1 (ST.out w26 (WB.out w26 B26.out.1).1).2.2.2.2.1).mono ?_
                            rintro e w27 ⟨a27, n27, c27, rfl, H27⟩
                            have B27 : Hid (Below w19.heap.size w19 w27 ∧ Below w23.heap.size w23 w27) := Lib.hid ⟨B26.out.1.trans (H27.out.2.mono B26.out.1.size), B26.out.2.trans (H27.out.2.mono B26.out.2.size)⟩
                            have S27 := Lib.hid (same_yes (.slice a27 n27 c27) (.slice a9 n9 c9) _ w27 (H27.out.1.row okE) (ST.out w27 (WB.out w27 B27.out.1).1).2.2.2.2.2.1)
                            go_wp2_with fail
                            refine S27.out.mono ?_
                            rintro e w28 ⟨rfl, hb28⟩
                            have B28 : Hid (Below w19.heap.size w19 w28 ∧ Below w23.heap.size w23 w28) := Lib.hid ⟨B27.out.1.trans (hb28.mono B27.out.1.size), B27.out.2.trans (hb28.mono B27.out.2.size)⟩
                            clear hb28 S27
                            have S28 := Lib.hid (sameTexts_yes (.slice a23 n23 c23) (.slice a8 n8 c8) _ w28 (WC.out w28 B28.out.2).2 (ST.out w28 (WB.out w28 B28.out.1).1).2.2.2.2.2.2.2.2.1)
                            go_wp2_with fail
                            refine S28.out.mono ?_
                            rintro e w29 ⟨rfl, hb29⟩
                            have B29 : Hid (Below w19.heap.size w19 w29) := Lib.hid (B28.out.1.trans (hb29.mono B28.out.1.size))
                            clear hb29 S28
                            have S29 := Lib.hid (sameTexts_yes (.slice (some ⟨gx, 0, none⟩) nn c6) (.slice na nn nc) names w29 (ST.out w29 (WB.out w29 B29.out).1).2.2.2.2.2.2.2.1 (ST.out w29 (WB.out w29 B29.out).1).2.2.2.1)
                            go_wp2_with fail
                            refine S29.out.mono ?_
                            rintro e w30 ⟨rfl, hb30⟩
                            have B30 : Hid (Below w19.heap.size w19 w30) := Lib.hid (B29.out.trans (hb30.mono B29.out.size))
                            clear hb30 S29
                            have hk10 : (nn : Int) < ((nn + 1 : Nat) : Int) := by omega
                            have hk11 : (nn : Int) < (nn : Int) + 1 := by omega
                            obtain ⟨bz, oz, ez, z0⟩ := rowT_at (ST.out w30 (WB.out w30 B30.out).1).2.2.2.2.2.2.1 nn (by rw [List.length_append, ← SZ.out.2]; simp)
                            simp only [Option.some.injEq, Addr.mk.injEq, and_true] at ez
                            obtain ⟨rfl, rfl⟩ := ez
                            rw [show (names ++ [mk]).getD nn ⟨#[]⟩ = mk by rw [SZ.out.2, List.getD_eq_getElem?_getD]; simp, HM.out, Nat.zero_add] at z0
                            have BF := Lib.hid (ST.out w30 (WB.out w30 B30.out).1).2.2.1
                            go_wp2_with fail
                            go_ret
                            exact ⟨rfl, BF.out⟩
end Apt
end Wt
end Go.Proofs.YtoocpbpdoaplgaaDoor
