/-
  held and Set, exactly.
-/
import Derived.Test.YthdofbjijpghfaaGreatDoorAcI
namespace Go.Proofs.YthdofbjijpghfaaGreatDoor
open Go.RowKit
namespace Ac
variable {D : DataW Unit} {p : ByteArray} {left : Lit → Bool}
/-- What Set answers and makes. -/
def Se (D : DataW Unit) (x : Bd) (r : Int) (D' : DataW Unit) : Prop :=
  (r = 0 ∧ (bdR x).2 = 0 ∧ D' = D.put (kl x.p x.n) (eR x.s x.v) ∧ (Maps.has D (kl x.p x.n) = true ∨ (Maps.has D (kl x.p x.n) = false ∧ ∃ k, Cn D x.p k ∧ k < 16))) ∨ (r = 194 ∧ (bdR x).2 = 0 ∧ D' = D ∧ Maps.has D (kl x.p x.n) = false ∧ ∃ k, Cn D x.p k ∧ 16 ≤ k) ∨ (r = 130 ∧ (bdR x).2 ≠ 0 ∧ D' = D)
variable {w w' : World} {t b n : Nat} {D' : DataW Unit}
set_option maxHeartbeats 4000000 in
set_option maxRecDepth 100000 in
theorem held_ex (p : ByteArray) (w : World) (t b n : Nat) (D : DataW Unit) (H : Tb w t b n D) (hn : n ≤ 1000000) :
    Calls Tryz.prog 28 #[.pointer (some ⟨t, 0, none⟩), .string p] w fun e w' => ∃ k : Nat, e = .returned (.int .i64 k) ∧ Cn D p k ∧ Below w.heap.size w w' := by
  have H' := Lib.hid H
  have SZ := Lib.hid (Nat.le_trans H.m.size_le hn)
  have c0 := H.cell
  clear H hn
  obtain ⟨r, hr⟩ : ∃ r, r = w.heap.size := ⟨_, rfl⟩
  go_enter Tryz.func28, Tryz.ntmps28
  go_wp2_with (at_range; refine wpList_range_own _ rfl _ 36 rfl 52 54 K Tryz.underlying36 rR b n D rfl H'.out.m ?_; intro w0 hrg0 hg0 hs0)
  go_frame
  rw [← hr] at hrg0 ⊢
  have S0 : Hid (w0.ranges Tryz.prog 52 rR b r n D (Maps.has D) (Maps.size D) ∧ Below w.heap.size w w0) := Lib.hid ⟨hrg0, (Below.refl _ w).grown hg0 (Nat.le_refl _) (fun k e => by cases e)⟩
  have RB : Hid (w.heap.size ≤ r) := Lib.hid (by rw [hr]; exact Nat.le_refl _)
  clear hrg0 hg0 hs0 hr
  go_loopw [5] (fun s wr => ∃ (left : Lit → Bool) (cnt k : Nat), s = .int .i64 k ∧ Hid (wr.ranges Tryz.prog 52 rR b r n D left cnt ∧ Below w.heap.size w wr ∧ k + cnt ≤ Maps.size D ∧ ∃ ll, Cp D p left ll ∧ k = ll.length)) (fun _ wr => wr.rangeLeft b r)
  case atStart => exact ⟨_, _, 0, rfl, Lib.hid ⟨S0.out.1, S0.out.2, by omega, [], Cp.start, rfl⟩⟩
  case round =>
    clear S0
    obtain ⟨left, cnt, k, rfl, S⟩ := hrel
    have hk : (k : Int) < 1000001 := by have := S.out.2.2.1; have := SZ.out; omega
    go_wp2_with (at_next; refine wpList_next_ranges _ rfl _ rfl 52 K rR (fun x : ByteArray × ByteArray => pv x.1 x.2) (fun x : ByteArray × Int => rv x.1 x.2) (fun key l h => (key_inv key l h).imp fun _ q => q.1) (fun v y h => (rR_inv v y h).imp fun _ q => q.1) b r n D left cnt rfl S.out.1 ?_ ?_)
    · intro h0 hl
      go_wp2_with fail
      go_ret
      obtain ⟨ll, hc, he⟩ := S.out.2.2.2
      exact ⟨k, rfl, ⟨ll, hc.d, fun x => by rw [hc.m x, hl]; simp, he⟩, S.out.2.1⟩
    · rintro p2 q2 s2 v2 l2 yd yp w2 cnt2 hkey hl2 hR hat hrg2 hlt hg2 hs2 hen
      have IN : Hid (InD D ⟨p2, q2, s2, v2⟩ ∧ l2 = kl p2 q2 ∧ left (kl p2 q2) = true) := Lib.hid (by
        obtain ⟨⟨a, b'⟩, e1, e2, e3, e4⟩ := key_inv _ _ hkey
        unfold pv at e1
        simp only [Value.agg.injEq, Array.mk.injEq, List.cons.injEq, Value.string.injEq, and_true] at e1
        obtain ⟨f1, f2⟩ := e1
        subst f1 f2
        obtain ⟨c, g1, g2⟩ := rR_inv _ _ hR
        unfold rv at g1
        simp only [Value.agg.injEq, Array.mk.injEq, List.cons.injEq, Value.string.injEq, Value.int.injEq, true_and, and_true] at g1
        simp only [Prod.mk.injEq] at g2
        refine ⟨⟨fun zd => ?_, e3, e4⟩, e2, by rw [← e2]; exact hl2⟩
        show D.atKey (kl p2 q2) zd = eR s2 v2
        rw [← e2, hat zd, g2.1, g1.1, g1.2])
      unfold pv rv at hen
      have S2 : Hid (w2.ranges Tryz.prog 52 rR b r n D (fun z => left z && !z.sameKey l2) cnt2 ∧ Below w.heap.size w w2 ∧ cnt2 < cnt) := Lib.hid ⟨hrg2, S.out.2.1.trans ((Below.refl _ wr).grown hg2 S.out.2.1.size (fun k e => by cases e; exact RB.out)), hlt⟩
      clear hkey hl2 hR hat hrg2 hlt hg2 hs2
      by_cases he : p2 = p
      · subst he
        have LT : Hid (∃ ll, Cp D p2 (fun z => left z && !z.sameKey l2) ll ∧ k + 1 = ll.length) := Lib.hid (by
          obtain ⟨ll, hc, e⟩ := S.out.2.2.2
          rw [IN.out.2.1]
          exact ⟨_, Cp.take (x := ⟨p2, q2, s2, v2⟩) hc IN.out.1 IN.out.2.2, by simp [e]⟩)
        have A2 : Hid (World.ranges (w2.alloc (.cells #[.string p2, .string q2] 52)) Tryz.prog 52 rR b r n D (fun z => left z && !z.sameKey l2) cnt2 ∧ Below w.heap.size w (w2.alloc (.cells #[.string p2, .string q2] 52))) := Lib.hid ⟨S2.out.1.alloc _, S2.out.2.1.alloc S2.out.2.1.size _⟩
        go_wp2_with fail
        go_roundw
        case rel => exact ⟨_, cnt2, k + 1, by go_num, Lib.hid ⟨A2.out.1, A2.out.2, by have := S.out.2.2.1; have := S2.out.2.2; omega, LT.out⟩⟩
        case measure => rw [A2.out.1.left_eq, S.out.1.left_eq]; exact S2.out.2.2
      · have ge := teq_no he
        have LT : Hid (∃ ll, Cp D p (fun z => left z && !z.sameKey l2) ll ∧ k = ll.length) := Lib.hid (by
          obtain ⟨ll, hc, e⟩ := S.out.2.2.2
          rw [IN.out.2.1]
          exact ⟨ll, Cp.pass (x := ⟨p2, q2, s2, v2⟩) hc IN.out.1 he, e⟩)
        clear he
        have A2 : Hid (World.ranges (w2.alloc (.cells #[.string p2, .string q2] 52)) Tryz.prog 52 rR b r n D (fun z => left z && !z.sameKey l2) cnt2 ∧ Below w.heap.size w (w2.alloc (.cells #[.string p2, .string q2] 52))) := Lib.hid ⟨S2.out.1.alloc _, S2.out.2.1.alloc S2.out.2.1.size _⟩
        go_wp2_with fail
        go_roundw
        case rel => exact ⟨_, cnt2, k, rfl, Lib.hid ⟨A2.out.1, A2.out.2, by have := S.out.2.2.1; have := S2.out.2.2; omega, LT.out⟩⟩
        case measure => rw [A2.out.1.left_eq, S.out.1.left_eq]; exact S2.out.2.2
set_option maxHeartbeats 4000000 in
set_option maxRecDepth 100000 in
theorem set_ex (x : Bd) (w : World) (t b n : Nat) (D : DataW Unit) (H : Ta w t b n D) (hn : n ≤ 900000) (hf : x.Fit) :
    Calls Tryz.prog 10 #[.pointer (some ⟨t, 0, none⟩), x.val] w fun e w' => ∃ r D', e = .returned (.int .i64 r) ∧ Ta w' t b (n + 1) D' ∧ Kept (fun y => y = b) w w' ∧ Se D x r D' := by
  have FI := Lib.hid hf
  have HH := Lib.hid H
  have NN := Lib.hid hn
  have LY : Hid (∀ W, Ta W t b n D → Calls Tryz.prog 29 #[.pointer (some ⟨t, 0, none⟩), x.val] W fun e w' => e = .returned (.tuple #[]) ∧ Hid (Ta w' t b (n + 1) (D.put (kl x.p x.n) (eR x.s x.v)) ∧ Kept (fun y => y = b) W w')) := Lib.hid fun W h => by
    refine (lay_any x W t b n D h.tb (by omega) hf).mono ?_
    rintro e w' ⟨rfl, h1, h2⟩
    exact ⟨rfl, Lib.hid ⟨⟨h1, hm_kept h.hm h2 h.tb.map⟩, h2⟩⟩
  obtain ⟨c, hc⟩ : ∃ c, c = (bdR x).2 := ⟨_, rfl⟩
  have CC := Lib.hid hc
  have VB : Hid (∀ W, L.HasM W → Calls Tryz.prog 26 #[x.val] W fun e w' => e = .returned (.int .i64 (c : Int)) ∧ Below W.heap.size W w') := Lib.hid fun W h => by rw [hc]; exact validB_any x W h hf
  have hcs : c = 0 ∨ c ≠ 0 := by omega
  have KS : Hid (x.p.size ≤ maxLen ∧ x.n.size ≤ maxLen) := Lib.hid ⟨by have := hf.s.1; unfold maxLen; omega, by have := hf.s.2.1; unfold maxLen; omega⟩
  have HA : Hid (∀ W, Ta W t b n D → Calls Tryz.prog 27 #[.pointer (some ⟨t, 0, none⟩), .string x.p, .string x.n] W fun e w' => e = .returned (.bool (Maps.has D (kl x.p x.n))) ∧ Below W.heap.size W w') := Lib.hid fun W h => has_any x.p x.n W t b n D h.tb KS.out.1 KS.out.2
  have HE : Hid (∀ W, Ta W t b n D → Calls Tryz.prog 28 #[.pointer (some ⟨t, 0, none⟩), .string x.p] W fun e w' => ∃ k : Nat, e = .returned (.int .i64 k) ∧ Cn D x.p k ∧ Below W.heap.size W w') := Lib.hid fun W h => held_ex x.p W t b n D h.tb (by omega)
  clear hc hf H hn
  unfold Bd.val at VB LY ⊢
  obtain ⟨p, q, s, v⟩ := x
  simp only at VB LY HA HE ⊢
  obtain ⟨g3, hg3⟩ : ∃ g, g = w.heap.size := ⟨_, rfl⟩
  obtain ⟨X, hX⟩ : ∃ X, X = w.alloc (.cells #[.string p, .string q, .string s, .int .i64 v] 28) := ⟨_, rfl⟩
  have AX : Hid (Below w.heap.size w X ∧ X.heap[g3]? = some (.cells #[.string p, .string q, .string s, .int .i64 v] 28 (0, 0))) := Lib.hid ⟨by rw [hX]; exact (Below.refl _ w).alloc (Nat.le_refl _) _, by rw [hX, hg3, heap_alloc_new]⟩
  have CE : Hid (∀ W, Below X.heap.size X W → W.cell? ⟨g3, 0, none⟩ = some (.string p) ∧ W.cell? ⟨g3, 1, none⟩ = some (.string q) ∧ W.cell? ⟨g3, 2, none⟩ = some (.string s) ∧ W.cell? ⟨g3, 3, none⟩ = some (.int .i64 v)) := Lib.hid fun W h => by
    have e := (h.block g3 (lt_of_some AX.out.2)).trans AX.out.2
    refine ⟨?_, ?_, ?_, ?_⟩ <;> rw [cell_of_row _ _ _ _ _ _ e] <;> rfl
  have TX : Hid (∀ W, Below X.heap.size X W → Ta W t b n D) := Lib.hid fun W h => (HH.out.below AX.out.1).below h
  obtain ⟨a0, a1, a2, a3⟩ := CE.out X (Below.refl _ _)
  have hX' := hX.symm
  have hg3' := hg3.symm
  clear hX hg3
  go_enter Tryz.func10, Tryz.ntmps10
  go_wp2_with fail
  refine (VB.out X (TX.out X (Below.refl _ _)).hm).mono ?_
  rintro e w1 ⟨rfl, hb⟩
  have B1 := Lib.hid hb
  clear hb a0 a1 a2 a3 hX' hg3'
  rcases hcs with h0 | h0
  · subst h0
    obtain ⟨a0, a1, a2, a3⟩ := CE.out w1 B1.out
    go_wp2_with fail
    refine (HA.out w1 (TX.out w1 B1.out)).mono ?_
    rintro e w2 ⟨rfl, hb⟩
    have B2 := Lib.hid (B1.out.trans (hb.mono B1.out.size))
    clear hb a0 a1 a2 a3
    obtain ⟨a0, a1, a2, a3⟩ := CE.out w2 B2.out
    cases hh : Maps.has D (kl p q) with
    | true =>
      go_wp2_with fail
      refine (LY.out w2 (TX.out w2 B2.out)).mono ?_
      rintro e w3 ⟨rfl, W3⟩
      clear a0 a1 a2 a3
      go_wp2_with fail
      go_ret
      exact ⟨0, _, rfl, W3.out.1, (Below.kept (AX.out.1.trans (B2.out.mono AX.out.1.size)) _).trans W3.out.2 (fun _ _ e => e), Or.inl ⟨rfl, CC.out.symm, rfl, Or.inl hh⟩⟩
    | false =>
      go_wp2_with fail
      refine (HE.out w2 (TX.out w2 B2.out)).mono ?_
      rintro e w3 ⟨k, rfl, hk, hb⟩
      have B3 := Lib.hid (B2.out.trans (hb.mono B2.out.size))
      have HK := Lib.hid hk
      clear hb hk a0 a1 a2 a3
      obtain ⟨a0, a1, a2, a3⟩ := CE.out w3 B3.out
      by_cases h6 : 16 ≤ k
      · have g6 : decide ((k : Int) ≥ 16) = true := decide_eq_true (by omega)
        have g7 : decide (16 ≤ (k : Int)) = true := decide_eq_true (by omega)
        have h6' : (16 : Int) ≤ k := by omega
        go_wp2_with fail
        go_ret
        have HT := (TX.out w3 B3.out)
        exact ⟨194, D, rfl, ⟨HT.tb.more (by omega), HT.hm⟩, Below.kept (AX.out.1.trans (B3.out.mono AX.out.1.size)) _, Or.inr (Or.inl ⟨rfl, CC.out.symm, rfl, hh, k, HK.out, h6⟩)⟩
      · have g6 : decide ((k : Int) ≥ 16) = false := decide_eq_false (by omega)
        have g7 : decide (16 ≤ (k : Int)) = false := decide_eq_false (by omega)
        have h6' : ¬ (16 : Int) ≤ k := by omega
        go_wp2_with fail
        refine (LY.out w3 (TX.out w3 B3.out)).mono ?_
        rintro e w4 ⟨rfl, W3⟩
        clear a0 a1 a2 a3
        go_wp2_with fail
        go_ret
        exact ⟨0, _, rfl, W3.out.1, (Below.kept (AX.out.1.trans (B3.out.mono AX.out.1.size)) _).trans W3.out.2 (fun _ _ e => e), Or.inl ⟨rfl, CC.out.symm, rfl, Or.inr ⟨hh, k, HK.out, by omega⟩⟩⟩
  · have g0 : ((c : Int) != 0) = true := by rw [bne_iff_ne]; omega
    have h0' : ¬ (c : Int) = 0 := by omega
    go_wp2_with fail
    go_ret
    have HT := (TX.out w1 B1.out)
    exact ⟨130, D, rfl, ⟨HT.tb.more (by omega), HT.hm⟩, Below.kept (AX.out.1.trans (B1.out.mono AX.out.1.size)) _, Or.inr (Or.inr ⟨rfl, by rw [← CC.out]; exact h0, rfl⟩)⟩
end Ac
end Go.Proofs.YthdofbjijpghfaaGreatDoor
