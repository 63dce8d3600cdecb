/-
  WatchPlays.
-/
import Derived.Test.YtfkoiehnkelpoaaDoorWpH
import Derived.Test.YtfkoiehnkelpoaaDoorWtK
namespace Go.Proofs.YtfkoiehnkelpoaaDoor
open Go.RowKit
namespace Wt
def Op.z : Op := ⟨0, ⟨none, 0, 0⟩, 0, ⟨#[]⟩, 0⟩
def kO : Kd Op := ⟨fun o => [.int .i64 o.k, o.l.v, .int .i64 o.n, .string o.p, .int .i64 o.m], 5, 51, 45, 64, Op.z⟩
theorem rowO_at {w : World} {a : Option Addr} {n cap : Nat} {xs : List Op} (H : Row kO w (.slice a n cap) xs) (k : Nat) (hk : k < xs.length) :
    ∃ b off, a = some ⟨b, off, none⟩ ∧ w.cell? ⟨b, off + k * 5, none⟩ = some (.int .i64 (xs.getD k Op.z).k) ∧ w.cell? ⟨b, off + k * 5 + 1, none⟩ = some (xs.getD k Op.z).l.v ∧ w.cell? ⟨b, off + k * 5 + 2, none⟩ = some (.int .i64 (xs.getD k Op.z).n) ∧ w.cell? ⟨b, off + k * 5 + 3, none⟩ = some (.string (xs.getD k Op.z).p) ∧ w.cell? ⟨b, off + k * 5 + 4, none⟩ = some (.int .i64 (xs.getD k Op.z).m) := by
  obtain ⟨b, off, ea, h⟩ := H.at k hk
  exact ⟨b, off, ea, h 0 _ rfl, h 1 _ rfl, h 2 _ rfl, h 3 _ rfl, h 4 _ rfl⟩
/-- What a step may be. -/
def Op.Fit (w : World) (o : Op) : Prop := o.p.size ≤ 1048576 ∧ ∃ l, Row kE w o.l.v l ∧ l.length ≤ 1048576 ∧ ∀ e ∈ l, e.p.size ≤ 1048576
/-- Two pairs of hubs, apart. -/
def Tw (w0 w : World) (g k g2 k2 : Nat) : Prop := ∃ v u s v2 u2 s2, Bt w0 w g v k u s ∧ Bt w0 w g2 v2 k2 u2 s2 ∧ ∀ x, BF g v k u x → ¬ BF g2 v2 k2 u2 x
/-- And a step of the law's own beside them. -/
def Tx (w0 w : World) (g k g2 k2 q : Nat) (cs : Array Value) : Prop := ∃ v u s v2 u2 s2, (Bt w0 w g v k u s ∧ Bt w0 w g2 v2 k2 u2 s2 ∧ ∀ x, BF g v k u x → ¬ BF g2 v2 k2 u2 x) ∧ w.heap[q]? = some (.cells cs 51 (0, 0)) ∧ ¬ BF g v k u q ∧ ¬ BF g2 v2 k2 u2 q ∧ w0.heap.size ≤ q
section
variable {w0 w w' : World} {g k g2 k2 q : Nat} {v u v2 u2 v' u' : Value} {s s2 s' : St} {cs : Array Value}
theorem two_step (H : Bt w0 w g v k u s) (H2 : Bt w0 w g2 v2 k2 u2 s2) (ap : ∀ x, BF g v k u x → ¬ BF g2 v2 k2 u2 x) (hd : Bd w0 w g v k u v' u' s' w') : Bt w0 w' g2 v2 k2 u2 s2 ∧ ∀ x, BF g v' k u' x → ¬ BF g2 v2 k2 u2 x :=
  ⟨H2.kept hd.2.1 (fun x h1 h2 => ap x h2 h1) H.lo, fun x h1 h2 => by
    rcases hd.2.2 x h1 with c | c
    · exact ap x c h2
    · have := H2.lt x h2; omega⟩
theorem Tw.swap (h : Tw w0 w g k g2 k2) : Tw w0 w g2 k2 g k := by
  obtain ⟨v, u, s, v2, u2, s2, h1, h2, h3⟩ := h
  exact ⟨v2, u2, s2, v, u, s, h2, h1, fun x a b => h3 x b a⟩
theorem Tw.be (h : Tw w0 w g k g2 k2) : Below w0.heap.size w0 w := by
  obtain ⟨v, u, s, v2, u2, s2, h1, h2, h3⟩ := h
  exact h1.be
theorem Tx.be (h : Tx w0 w g k g2 k2 q cs) : Below w0.heap.size w0 w := by
  obtain ⟨v, u, s, v2, u2, s2, ⟨h1, h2, h3⟩, -⟩ := h
  exact h1.be
theorem Tx.swap (h : Tx w0 w g k g2 k2 q cs) : Tx w0 w g2 k2 g k q cs := by
  obtain ⟨v, u, s, v2, u2, s2, ⟨h1, h2, h3⟩, h4, h5, h6, h7⟩ := h
  exact ⟨v2, u2, s2, v, u, s, ⟨h2, h1, fun x a b => h3 x b a⟩, h4, h6, h5, h7⟩
theorem Tx.row (h : Tx w0 w g k g2 k2 q cs) : w.heap[q]? = some (.cells cs 51 (0, 0)) := by
  obtain ⟨v, u, s, v2, u2, s2, ⟨h1, h2, h3⟩, h4, h5, h6, h7⟩ := h
  exact h4
theorem Tx.set (h : Tx w0 w g k g2 k2 q cs) (i : Nat) (x : Value) : Tx w0 (w.setCell ⟨q, i, none⟩ x) g k g2 k2 q (cs.setIfInBounds i x) := by
  obtain ⟨v, u, s, v2, u2, s2, ⟨h1, h2, h3⟩, h4, h5, h6, h7⟩ := h
  have hk : Kept (fun y => y = q) w (w.setCell ⟨q, i, none⟩ x) := kept_set w ⟨q, i, none⟩ x rfl
  exact ⟨v, u, s, v2, u2, s2, ⟨h1.kept hk (fun y a b => h5 (by subst b; exact a)) (fun y b => by subst b; exact h7), h2.kept hk (fun y a b => h6 (by subst b; exact a)) (fun y b => by subst b; exact h7), h3⟩, set_row h4 i x, h5, h6, h7⟩
theorem Tw.box (h : Tw w0 w g k g2 k2) (cs : Array Value) : Tx w0 (w.alloc (.cells cs 51)) g k g2 k2 w.heap.size cs := by
  obtain ⟨v, u, s, v2, u2, s2, h1, h2, h3⟩ := h
  have hb := (Below.refl _ w).alloc (Nat.le_refl _) (.cells cs 51)
  exact ⟨v, u, s, v2, u2, s2, ⟨h1.below hb, h2.below hb, h3⟩, heap_alloc_new _ _, fun a => by have := h1.lt _ a; omega, fun a => by have := h2.lt _ a; omega, h1.be.size⟩
theorem Tw.played {mk : Ev} {o : Op} (h : Tw w0 w g k g2 k2) (hG : Gl mk w0) (ho : o.Fit w0) : Calls Tryd.prog 20 #[.pointer (some ⟨g, 0, none⟩), .pointer (some ⟨k, 0, none⟩), o.val] w fun e w' => e = .returned (.bool true) ∧ Tw w0 w' g k g2 k2 := by
  obtain ⟨v, u, s, v2, u2, s2, h1, h2, h3⟩ := h
  obtain ⟨hp, l, hL, hl, hz⟩ := ho
  refine (played_any mk o l w0 w g v k u s hG hL hl hz hp h1).mono ?_
  rintro e w' ⟨rfl, v', u', s', hd⟩
  have := two_step h1 h2 h3 hd
  exact ⟨rfl, v', u', s', v2, u2, s2, hd.1, this.1, this.2⟩
theorem Tx.played {mk : Ev} {o : Op} (h : Tx w0 w g k g2 k2 q cs) (hG : Gl mk w0) (ho : o.Fit w0) : Calls Tryd.prog 20 #[.pointer (some ⟨g, 0, none⟩), .pointer (some ⟨k, 0, none⟩), o.val] w fun e w' => e = .returned (.bool true) ∧ Tx w0 w' g k g2 k2 q cs := by
  obtain ⟨v, u, s, v2, u2, s2, ⟨h1, h2, h3⟩, h4, h5, h6, h7⟩ := h
  obtain ⟨hp, l, hL, hl, hz⟩ := ho
  refine (played_any mk o l w0 w g v k u s hG hL hl hz hp h1).mono ?_
  rintro e w' ⟨rfl, v', u', s', hd⟩
  have h8 := two_step h1 h2 h3 hd
  have hq := lt_of_some h4
  refine ⟨rfl, v', u', s', v2, u2, s2, ⟨hd.1, h8.1, h8.2⟩, (hd.2.1.block q hq h5).trans h4, fun a => ?_, h6, h7⟩
  rcases hd.2.2 q a with c | c
  · exact h5 c
  · omega
theorem hf_nil {x : Nat} (h : HF g (.slice none 0 0) x) : x = g := by
  rcases h with h | h
  · exact h
  · simp [Value.ownBlock] at h
end
theorem ok_start (x : Int) : (⟨min (max x 0) 1152921504606846976, min (max x 0) 1152921504606846976, []⟩ : St).Ok := ⟨by simp only; omega, List.Pairwise.nil, (fun e he => by simp at he), by simp⟩
set_option maxHeartbeats 16000000 in
set_option maxRecDepth 100000 in
theorem plays_walk (mk : Ev) (version other : Int) (sv : Value) (os : List Op) (w : World) (hG : Gl mk w) (hS : Row kO w sv os) (hO : ∀ o ∈ os, o.Fit w) :
    Calls Tryd.prog 5 #[.int .i64 version, .int .i64 other, sv] w fun e w' => e = .returned (.bool true) ∧ Below w.heap.size w w' := by
  have KN := Lib.hid (known_any mk w hG)
  have SS := Lib.hid hS
  have SO := Lib.hid hO
  have GG := Lib.hid hG
  obtain ⟨a, cap, rfl, hlc, hcm⟩ := hS.len
  unfold maxLen at hcm
  obtain ⟨n, hn⟩ : ∃ n, n = os.length := ⟨_, rfl⟩
  rw [← hn] at hlc SS ⊢
  have HN := Lib.hid hn
  clear hS hO hG hn
  go_enter Tryd.func5, Tryd.ntmps5
  go_wp2_with fail
  refine KN.out.mono ?_
  rintro e w1 ⟨rfl, hb1⟩
  have B1 := Lib.hid hb1
  have N1 := Lib.hid (new_any version w1)
  clear KN hb1
  go_wp2_with fail
  refine N1.out.mono ?_
  rintro e w2 ⟨rfl, ha, hb2⟩
  have A2 := Lib.hid (And.intro ha hb2)
  have N2 := Lib.hid (new_any other w2)
  clear ha hb2 N1
  go_wp2_with fail
  refine N2.out.mono ?_
  rintro e w3 ⟨rfl, ha, hb3⟩
  have A3 := Lib.hid (And.intro ha hb3)
  have N3 := Lib.hid (rnew_any version w3)
  clear ha hb3 N2
  go_wp2_with fail
  refine N3.out.mono ?_
  rintro e w4 ⟨rfl, ha, hb4⟩
  have A4 := Lib.hid (And.intro ha hb4)
  have N4 := Lib.hid (rnew_any other w4)
  clear ha hb4 N3
  go_wp2_with fail
  refine N4.out.mono ?_
  rintro e w5 ⟨rfl, ha, hb5⟩
  have A5 := Lib.hid (And.intro ha hb5)
  clear ha hb5 N4
  have TW : Hid (Tw w w5 w1.heap.size w3.heap.size w2.heap.size w4.heap.size) := Lib.hid (by
    have s1 := B1.out.size
    have l1 := A2.out.1.lt _ (.inl rfl)
    have l2 := A3.out.1.lt _ (.inl rfl)
    have l3 := A4.out.1.lt _ (.inl rfl)
    have be : Below w.heap.size w w5 := (((B1.out.trans (A2.out.2.mono s1)).trans (A3.out.2.mono (by omega))).trans (A4.out.2.mono (by omega))).trans (A5.out.2.mono (by omega))
    refine ⟨.slice none 0 0, .slice none 0 0, _, .slice none 0 0, .slice none 0 0, _, ⟨((A2.out.1.below A3.out.2).below A4.out.2).below A5.out.2, A4.out.1.below A5.out.2, ok_start version, fun e he => by simp at he, fun x h1 h2 => ?_, fun x h => ?_, be⟩, ⟨(A3.out.1.below A4.out.2).below A5.out.2, A5.out.1, ok_start other, fun e he => by simp at he, fun x h1 h2 => ?_, fun x h => ?_, be⟩, fun x h1 h2 => ?_⟩
    · have := hf_nil h1; have := hf_nil h2; omega
    · rcases h with h | h <;> have := hf_nil h <;> omega
    · have := hf_nil h1; have := hf_nil h2; omega
    · rcases h with h | h <;> have := hf_nil h <;> omega
    · rcases h1 with h1 | h1 <;> rcases h2 with h2 | h2 <;> have := hf_nil h1 <;> have := hf_nil h2 <;> omega)
  obtain ⟨g1, hg1⟩ : ∃ g1, g1 = w1.heap.size := ⟨_, rfl⟩
  obtain ⟨g2, hg2⟩ : ∃ g2, g2 = w2.heap.size := ⟨_, rfl⟩
  obtain ⟨k1, hk1⟩ : ∃ k1, k1 = w3.heap.size := ⟨_, rfl⟩
  obtain ⟨k2, hk2⟩ : ∃ k2, k2 = w4.heap.size := ⟨_, rfl⟩
  rw [← hg1, ← hg2, ← hk1, ← hk2] at TW ⊢
  clear hg1 hg2 hk1 hk2 A2 A3 A4 A5 B1
  go_wp2_with fail
  go_loopg [11] n (fun gk si wr => ∃ (i : Nat), i ≤ n ∧ gk = n - i ∧ si = .int .i64 i ∧ Hid (Tw w wr g1 k1 g2 k2))
  case atStart => exact ⟨0, Nat.zero_le _, rfl, rfl, TW⟩
  case round =>
    obtain ⟨i, hi1, hgk, rfl, R⟩ := hrel
    have GK := Lib.hid hgk
    clear hgk TW
    by_cases hlt : i < n
    · have hlt' : (i : Int) < (n : Int) := by omega
      obtain ⟨b, off, rfl, c0, c1, c2, c3, c4⟩ := rowO_at (SS.out.below R.out.be) i (by rw [← HN.out]; exact hlt)
      have OF := Lib.hid (SO.out (os.getD i Op.z) (getD_in (by rw [← HN.out]; exact hlt)))
      obtain ⟨o, ho⟩ : ∃ o, o = os.getD i Op.z := ⟨_, rfl⟩
      rw [← ho] at c0 c1 c2 c3 c4 OF
      clear ho
      have PA := Lib.hid (R.out.played GG.out OF.out)
      have PB := Lib.hid (R.out.swap.played GG.out OF.out)
      obtain ⟨ok, ⟨la, ln, lc⟩, kn, kp, km⟩ := o
      have v1 : (⟨la, ln, lc⟩ : Sl).v = .slice la ln lc := rfl
      simp only [v1] at c0 c1 c2 c3 c4
      simp only [Op.val, v1] at PA PB
      have hr0 : (0 : Int) ≤ (i : Int).tmod 3 := Int.tmod_nonneg 3 (by omega)
      have hr1 : (i : Int).tmod 3 < 3 := Int.tmod_lt_of_pos (i : Int) (by omega)
      obtain ⟨rm, hrm⟩ : ∃ rm, rm = (i : Int).tmod 3 := ⟨_, rfl⟩
      have hrm' := hrm.symm
      rw [← hrm] at hr0 hr1
      clear hrm
      have hw : IntKind.i64.wrap rm = rm := by rw [IntKind.wrap_i64]; omega
      by_cases hm : rm = 2
      · have hm' : (rm == 2) = true := by rw [beq_iff_eq]; exact hm
        go_wp2_with fail
        refine PB.out.mono ?_
        rintro e w6 ⟨rfl, ht⟩
        have T6 := Lib.hid ht.swap
        clear ht PA PB
        go_wp2_with fail
        go_roundg (n - (i + 1))
        case measure => have := GK.out; omega
        case rel => exact ⟨i + 1, by omega, rfl, by go_num, T6⟩
      · have hm' : (rm == 2) = false := by rw [beq_eq_false_iff_ne]; exact hm
        go_wp2_with fail
        refine PA.out.mono ?_
        rintro e w6 ⟨rfl, ht⟩
        have T6 := Lib.hid ht
        clear ht PA PB
        go_wp2_with fail
        go_roundg (n - (i + 1))
        case measure => have := GK.out; omega
        case rel => exact ⟨i + 1, by omega, rfl, by go_num, T6⟩
    · have hin : ¬ (i : Int) < (n : Int) := by omega
      obtain ⟨q, hq⟩ : ∃ q, q = wr.heap.size := ⟨_, rfl⟩
      obtain ⟨X, hX⟩ : ∃ X, X = wr.alloc (.cells #[.int .i64 2, .slice none 0 0, .int .i64 0, .string ⟨#[47]⟩, .int .i64 100] 51) := ⟨_, rfl⟩
      have TX : Hid (Tx w X g1 k1 g2 k2 q #[.int .i64 2, .slice none 0 0, .int .i64 0, .string ⟨#[47]⟩, .int .i64 100]) := Lib.hid (by rw [hX, hq]; exact R.out.box _)
      have OF : Hid (∀ j : Int, Op.Fit w ⟨2, ⟨none, 0, 0⟩, j, ⟨#[47]⟩, 100⟩) := Lib.hid fun j => ⟨by show (1 : Nat) ≤ _; decide, [], Row.nil w, by simp, fun e he => by simp at he⟩
      have hq' := hq.symm
      have hX' := hX.symm
      clear hX hq R SS SO
      go_wp2_with fail
      go_loopg [13] 140 (fun gk si wr => ∃ (j : Nat) (N : Int), j ≤ 140 ∧ gk = 140 - j ∧ si = .int .i64 j ∧ Hid (Tx w wr g1 k1 g2 k2 q #[.int .i64 2, .slice none 0 0, .int .i64 N, .string ⟨#[47]⟩, .int .i64 100]))
      case atStart => exact ⟨0, 0, Nat.zero_le _, rfl, rfl, TX⟩
      case round =>
        obtain ⟨j, N, hj1, hgj, rfl, R⟩ := hrel
        have GJ := Lib.hid hgj
        clear hgj TX
        by_cases hjt : j < 140
        · have hjt' : (j : Int) < 140 := by omega
          have z2 : wr.cell? ⟨q, 2, none⟩ = some (.int .i64 N) := cell_of_row _ _ 2 _ _ _ R.out.row
          have f2 := frozen_row R.out.row 2
          obtain ⟨Y, hY⟩ : ∃ Y, Y = wr.setCell ⟨q, 2, none⟩ (.int .i64 (j : Int)) := ⟨_, rfl⟩
          have TY : Hid (Tx w Y g1 k1 g2 k2 q #[.int .i64 2, .slice none 0 0, .int .i64 (j : Int), .string ⟨#[47]⟩, .int .i64 100]) := Lib.hid (by rw [hY]; exact R.out.set 2 _)
          have y0 : Y.cell? ⟨q, 0, none⟩ = some (.int .i64 2) := cell_of_row _ _ 0 _ _ _ TY.out.row
          have y1 : Y.cell? ⟨q, 1, none⟩ = some (.slice none 0 0) := cell_of_row _ _ 1 _ _ _ TY.out.row
          have y2 : Y.cell? ⟨q, 2, none⟩ = some (.int .i64 (j : Int)) := cell_of_row _ _ 2 _ _ _ TY.out.row
          have y3 : Y.cell? ⟨q, 3, none⟩ = some (.string ⟨#[47]⟩) := cell_of_row _ _ 3 _ _ _ TY.out.row
          have y4 : Y.cell? ⟨q, 4, none⟩ = some (.int .i64 100) := cell_of_row _ _ 4 _ _ _ TY.out.row
          have PA := Lib.hid (TY.out.played GG.out (OF.out (j : Int)))
          have v1 : (⟨none, 0, 0⟩ : Sl).v = .slice none 0 0 := rfl
          simp only [Op.val, v1] at PA
          have hY' := hY.symm
          clear hY
          go_wp2_with fail
          refine PA.out.mono ?_
          rintro e w6 ⟨rfl, ht⟩
          have T6 := Lib.hid ht
          have x0 : w6.cell? ⟨q, 0, none⟩ = some (.int .i64 2) := cell_of_row _ _ 0 _ _ _ ht.row
          have x1 : w6.cell? ⟨q, 1, none⟩ = some (.slice none 0 0) := cell_of_row _ _ 1 _ _ _ ht.row
          have x2 : w6.cell? ⟨q, 2, none⟩ = some (.int .i64 (j : Int)) := cell_of_row _ _ 2 _ _ _ ht.row
          have x3 : w6.cell? ⟨q, 3, none⟩ = some (.string ⟨#[47]⟩) := cell_of_row _ _ 3 _ _ _ ht.row
          have x4 : w6.cell? ⟨q, 4, none⟩ = some (.int .i64 100) := cell_of_row _ _ 4 _ _ _ ht.row
          have PB := Lib.hid (T6.out.swap.played GG.out (OF.out (j : Int)))
          simp only [Op.val, v1] at PB
          clear ht PA y0 y1 y2 y3 y4 z2 f2
          go_wp2_with fail
          refine PB.out.mono ?_
          rintro e w7 ⟨rfl, ht⟩
          have T7 := Lib.hid ht.swap
          clear ht PB x0 x1 x2 x3 x4
          go_wp2_with fail
          go_roundg (140 - (j + 1))
          case measure => have := GJ.out; omega
          case rel => exact ⟨j + 1, (j : Int), by omega, rfl, by go_num, T7⟩
        · have hjn : ¬ (j : Int) < 140 := by omega
          have FN := Lib.hid R.out.be
          go_wp2_with fail
          go_ret
          exact ⟨rfl, FN.out⟩
end Wt
end Go.Proofs.YtfkoiehnkelpoaaDoor
