/-
  Set, Drop, Leave.
-/
import Derived.Test.YtdhnpgciclbfeaaGreatDoorAcL
namespace Go.Proofs.YtdhnpgciclbfeaaGreatDoor
open Go.RowKit
namespace Ac
/-- The table, with the package's variable. -/
structure Ta (w : World) (t b n : Nat) (D : DataW Unit) : Prop where
  tb : Tb w t b n D
  hm : L.HasM w
variable {w w' : World} {t b n : Nat} {D D' : DataW Unit}
theorem hm_kept (hm : L.HasM w) (hk : Kept (fun y => y = b) w w') (hb : ∃ es c, w.heap[b]? = some (.map es c)) : L.HasM w' := by
  obtain ⟨m, hc⟩ := hm
  refine ⟨m, (World.cell?_of_block (hk.block _ (block_lt_of_cell hc) (fun e => ?_))).trans hc⟩
  obtain ⟨es, c, hb⟩ := hb
  have e' : w.heap[0]? = some (.map es c) := by rw [← hb]; exact congrArg (fun x => w.heap[x]?) e
  simp [World.cell?, e'] at hc
theorem Tb.map (h : Tb w t b n D) : ∃ es c, w.heap[b]? = some (.map es c) := by
  obtain ⟨es, c, hb, _⟩ := h.m
  exact ⟨es, c, hb⟩
theorem Ta.below (h : Ta w t b n D) (hb : Below w.heap.size w w') : Ta w' t b n D := ⟨h.tb.below hb, h.hm.below hb⟩
theorem bd_codes (x : Bd) : (bdR x).2 = 0 ∨ (bdR x).2 = 23 ∨ (bdR x).2 = 130 := by
  unfold bdR outR
  split
  · split
    · exact Or.inl rfl
    · exact Or.inr (Or.inl rfl)
  · exact Or.inr (Or.inr rfl)
set_option maxHeartbeats 4000000 in
set_option maxRecDepth 100000 in
theorem set_any (x : Bd) (w : World) (t b n : Nat) (D : DataW Unit) (H : Ta w t b n D) (hn : n ≤ 100000) (hf : x.Fit) :
    Calls Tryz.prog 15 #[.pointer (some ⟨t, 0, none⟩), x.val] w fun e w' => ∃ r D', e = .returned (.int .i64 r) ∧ Ta w' t b (n + 1) D' ∧ Kept (fun y => y = b) w w' ∧ ((r = 0 ∧ (bdR x).2 = 0 ∧ D' = D.put (kl x.p x.n) (eR x.s x.v)) ∨ (r ≠ 0 ∧ D' = D)) ∧ ((bdR x).2 = 0 → Maps.size D < 16 → r = 0) := by
  have FI := Lib.hid hf
  have HH := Lib.hid H
  have NN := Lib.hid hn
  have LY : Hid (∀ W, Ta W t b n D → Calls Tryz.prog 20 #[.pointer (some ⟨t, 0, none⟩), x.val] W fun e w' => e = .returned (.tuple #[]) ∧ Hid (Ta w' t b (n + 1) (D.put (kl x.p x.n) (eR x.s x.v)) ∧ Kept (fun y => y = b) W w')) := Lib.hid fun W h => by
    refine (lay_any x W t b n D h.tb (by omega) hf).mono ?_
    rintro e w' ⟨rfl, h1, h2⟩
    exact ⟨rfl, Lib.hid ⟨⟨h1, hm_kept h.hm h2 h.tb.map⟩, h2⟩⟩
  obtain ⟨c, hc⟩ : ∃ c, c = (bdR x).2 := ⟨_, rfl⟩
  have CC := Lib.hid hc
  have VB : Hid (∀ W, L.HasM W → Calls Tryz.prog 18 #[x.val] W fun e w' => e = .returned (.int .i64 (c : Int)) ∧ Below W.heap.size W w') := Lib.hid fun W h => by rw [hc]; exact validB_any x W h hf
  have hcs : c = 0 ∨ c ≠ 0 := by omega
  have KS : Hid (x.p.size ≤ maxLen ∧ x.n.size ≤ maxLen) := Lib.hid ⟨by have := hf.s.1; unfold maxLen; omega, by have := hf.s.2.1; unfold maxLen; omega⟩
  have HA : Hid (∀ W, Ta W t b n D → Calls Tryz.prog 19 #[.pointer (some ⟨t, 0, none⟩), .string x.p, .string x.n] W fun e w' => e = .returned (.bool (Maps.has D (kl x.p x.n))) ∧ Below W.heap.size W w') := Lib.hid fun W h => has_any x.p x.n W t b n D h.tb KS.out.1 KS.out.2
  have HE : Hid (∀ W, Ta W t b n D → Calls Tryz.prog 34 #[.pointer (some ⟨t, 0, none⟩), .string x.p] W fun e w' => ∃ k : Nat, e = .returned (.int .i64 k) ∧ k ≤ Maps.size D ∧ Below W.heap.size W w') := Lib.hid fun W h => held_any x.p W t b n D h.tb (by omega)
  clear hc hf H hn
  unfold Bd.val at VB LY ⊢
  obtain ⟨p, q, s, v⟩ := x
  simp only at VB LY HA HE ⊢
  obtain ⟨g3, hg3⟩ : ∃ g, g = w.heap.size := ⟨_, rfl⟩
  obtain ⟨X, hX⟩ : ∃ X, X = w.alloc (.cells #[.string p, .string q, .string s, .int .i64 v] 26) := ⟨_, rfl⟩
  have AX : Hid (Below w.heap.size w X ∧ X.heap[g3]? = some (.cells #[.string p, .string q, .string s, .int .i64 v] 26 (0, 0))) := Lib.hid ⟨by rw [hX]; exact (Below.refl _ w).alloc (Nat.le_refl _) _, by rw [hX, hg3, heap_alloc_new]⟩
  have CE : Hid (∀ W, Below X.heap.size X W → W.cell? ⟨g3, 0, none⟩ = some (.string p) ∧ W.cell? ⟨g3, 1, none⟩ = some (.string q) ∧ W.cell? ⟨g3, 2, none⟩ = some (.string s) ∧ W.cell? ⟨g3, 3, none⟩ = some (.int .i64 v)) := Lib.hid fun W h => by
    have e := (h.block g3 (lt_of_some AX.out.2)).trans AX.out.2
    refine ⟨?_, ?_, ?_, ?_⟩ <;> rw [cell_of_row _ _ _ _ _ _ e] <;> rfl
  have TX : Hid (∀ W, Below X.heap.size X W → Ta W t b n D) := Lib.hid fun W h => (HH.out.below AX.out.1).below h
  obtain ⟨a0, a1, a2, a3⟩ := CE.out X (Below.refl _ _)
  have hX' := hX.symm
  have hg3' := hg3.symm
  clear hX hg3
  go_enter Tryz.func15, Tryz.ntmps15
  go_wp2_with fail
  refine (VB.out X (TX.out X (Below.refl _ _)).hm).mono ?_
  rintro e w1 ⟨rfl, hb⟩
  have B1 := Lib.hid hb
  clear hb a0 a1 a2 a3 hX' hg3'
  rcases hcs with h0 | h0
  · subst h0
    obtain ⟨a0, a1, a2, a3⟩ := CE.out w1 B1.out
    go_wp2_with fail
    refine (HA.out w1 (TX.out w1 B1.out)).mono ?_
    rintro e w2 ⟨rfl, hb⟩
    have B2 := Lib.hid (B1.out.trans (hb.mono B1.out.size))
    clear hb a0 a1 a2 a3
    obtain ⟨a0, a1, a2, a3⟩ := CE.out w2 B2.out
    cases hh : Maps.has D (kl p q) with
    | true =>
      go_wp2_with fail
      refine (LY.out w2 (TX.out w2 B2.out)).mono ?_
      rintro e w3 ⟨rfl, W3⟩
      clear a0 a1 a2 a3
      go_wp2_with fail
      go_ret
      exact ⟨0, _, rfl, W3.out.1, (Below.kept (AX.out.1.trans (B2.out.mono AX.out.1.size)) _).trans W3.out.2 (fun _ _ e => e), Or.inl ⟨rfl, CC.out.symm, rfl⟩, fun _ _ => rfl⟩
    | false =>
      go_wp2_with fail
      refine (HE.out w2 (TX.out w2 B2.out)).mono ?_
      rintro e w3 ⟨k, rfl, hk, hb⟩
      have B3 := Lib.hid (B2.out.trans (hb.mono B2.out.size))
      have HK := Lib.hid hk
      clear hb hk a0 a1 a2 a3
      obtain ⟨a0, a1, a2, a3⟩ := CE.out w3 B3.out
      by_cases h6 : 16 ≤ k
      · have g6 : decide ((k : Int) ≥ 16) = true := decide_eq_true (by omega)
        have g7 : decide (16 ≤ (k : Int)) = true := decide_eq_true (by omega)
        have h6' : (16 : Int) ≤ k := by omega
        go_wp2_with fail
        go_ret
        have HT := (TX.out w3 B3.out)
        exact ⟨194, D, rfl, ⟨HT.tb.more (by omega), HT.hm⟩, Below.kept (AX.out.1.trans (B3.out.mono AX.out.1.size)) _, Or.inr ⟨by decide, rfl⟩, fun _ h => by have := HK.out; omega⟩
      · have g6 : decide ((k : Int) ≥ 16) = false := decide_eq_false (by omega)
        have g7 : decide (16 ≤ (k : Int)) = false := decide_eq_false (by omega)
        have h6' : ¬ (16 : Int) ≤ k := by omega
        go_wp2_with fail
        refine (LY.out w3 (TX.out w3 B3.out)).mono ?_
        rintro e w4 ⟨rfl, W3⟩
        clear a0 a1 a2 a3
        go_wp2_with fail
        go_ret
        exact ⟨0, _, rfl, W3.out.1, (Below.kept (AX.out.1.trans (B3.out.mono AX.out.1.size)) _).trans W3.out.2 (fun _ _ e => e), Or.inl ⟨rfl, CC.out.symm, rfl⟩, fun _ _ => rfl⟩
  · have g0 : ((c : Int) != 0) = true := by rw [bne_iff_ne]; omega
    have h0' : ¬ (c : Int) = 0 := by omega
    go_wp2_with fail
    go_ret
    have HT := (TX.out w1 B1.out)
    exact ⟨130, D, rfl, ⟨HT.tb.more (by omega), HT.hm⟩, Below.kept (AX.out.1.trans (B1.out.mono AX.out.1.size)) _, Or.inr ⟨by decide, rfl⟩, fun h => by rw [CC.out] at h0; exact absurd h h0⟩
set_option maxHeartbeats 4000000 in
set_option maxRecDepth 100000 in
theorem drop_any (p q : ByteArray) (w : World) (t b n : Nat) (D : DataW Unit) (H : Ta w t b n D) (hp : p.size ≤ maxLen) (hq : q.size ≤ maxLen) :
    Calls Tryz.prog 17 #[.pointer (some ⟨t, 0, none⟩), .string p, .string q] w fun e w' => ∃ r D', e = .returned (.int .i64 r) ∧ Ta w' t b n D' ∧ Kept (fun y => y = b) w w' ∧ ((r = 0 ∧ L.splitE p = 0 ∧ Maps.has D (kl p q) = true ∧ D' = D.del (kl p q)) ∨ (r ≠ 0 ∧ D' = D)) ∧ (L.splitE p = 0 → Maps.has D (kl p q) = true → r = 0) := by
  have HH := Lib.hid H
  obtain ⟨c, hc⟩ : ∃ c, c = L.splitE p := ⟨_, rfl⟩
  have CC := Lib.hid hc
  have PA := Lib.hid (L.path_any p w H.hm)
  rw [← hc] at PA
  have hcs : c = 0 ∨ c ≠ 0 := by omega
  have KY := Lib.hid (key_mk p q hp hq)
  have TX : Hid (∀ W, Below w.heap.size w W → Ta W t b n D) := Lib.hid fun W h => HH.out.below h
  have HA : Hid (∀ W, Ta W t b n D → Calls Tryz.prog 19 #[.pointer (some ⟨t, 0, none⟩), .string p, .string q] W fun e w' => e = .returned (.bool (Maps.has D (kl p q))) ∧ Below W.heap.size W w') := Lib.hid fun W h => has_any p q W t b n D h.tb hp hq
  clear hc H hp hq
  go_enter Tryz.func17, Tryz.ntmps17
  go_wp2_with fail
  refine PA.out.mono ?_
  rintro e w1 ⟨rfl, hb⟩
  have B1 := Lib.hid hb
  clear hb
  rcases hcs with h0 | h0
  · subst h0
    go_wp2_with fail
    refine (HA.out w1 (TX.out w1 B1.out)).mono ?_
    rintro e w2 ⟨rfl, hb⟩
    have B2 := Lib.hid (B1.out.trans (hb.mono B1.out.size))
    clear hb
    cases hh : Maps.has D (kl p q) with
    | false =>
      go_wp2_with fail
      go_ret
      exact ⟨191, D, rfl, TX.out w2 B2.out, Below.kept B2.out _, Or.inr ⟨by decide, rfl⟩, fun _ h => by rw [hh] at h; simp at h⟩
    | true =>
      have T2 := Lib.hid (TX.out w2 B2.out)
      have e0 := T2.out.tb.cell
      go_wp2_with (at_delete; refine wpList_delete_own _ rfl _ _ 49 53 rfl 55 K Tryz.underlying49 rR b n D rfl T2.out.tb.m _ _ rfl KY.out ?_; intro w3 hown3 hturn3; have W3 := Lib.hid (And.intro hown3 hturn3); clear hown3 hturn3)
      go_ret
      have gr := W3.out.2.grown
      have kp : Kept (fun y => y = b) w2 w3 := (grown_kept gr).mono (fun y _ e => Option.some.inj e)
      refine ⟨0, _, rfl, ⟨⟨(gr.block t (lt_of_some T2.out.tb.t) (fun e => T2.out.tb.ne (Option.some.inj e))).trans T2.out.tb.t, W3.out.1⟩, hm_kept T2.out.hm kp T2.out.tb.map⟩, (Below.kept B2.out _).trans kp (fun _ _ e => e), Or.inl ⟨rfl, CC.out.symm, hh, rfl⟩, fun _ _ => rfl⟩
  · have g0 : ((c : Int) != 0) = true := by rw [bne_iff_ne]; omega
    have h0' : ¬ (c : Int) = 0 := by omega
    go_wp2_with fail
    go_ret
    exact ⟨_, D, rfl, TX.out w1 B1.out, Below.kept B1.out _, Or.inr ⟨by omega, rfl⟩, fun h => by rw [CC.out] at h0; exact absurd h h0⟩
/-- A table whose map is gone through. -/
structure Rg (w0 : World) (t b r n : Nat) (left : Lit → Bool) (cnt : Nat) (w : World) : Prop where
  t : w.heap[t]? = some (.cells #[.map (some b)] 51 (0, 0))
  m : ∃ D, w.ranges Tryz.prog 53 rR b r n D left cnt
  hm : L.HasM w
  k : Kept (fun y => y = b) w0 w
theorem Rg.cell {w0 : World} {r cnt : Nat} {left : Lit → Bool} (h : Rg w0 t b r n left cnt w) : w.cell? ⟨t, 0, none⟩ = some (.map (some b)) := by rw [cell_of_row w t 0 _ _ _ h.t]; rfl
set_option maxHeartbeats 4000000 in
set_option maxRecDepth 100000 in
theorem leave_any (p : ByteArray) (w : World) (t b n : Nat) (D : DataW Unit) (H : Ta w t b n D) (hn : n ≤ 1000000) :
    Calls Tryz.prog 30 #[.pointer (some ⟨t, 0, none⟩), .string p] w fun e w' => ∃ (k : Nat) (D' : DataW Unit), e = .returned (.int .i64 k) ∧ Ta w' t b n D' ∧ Kept (fun y => y = b) w w' := by
  have H' := Lib.hid H
  have SZ := Lib.hid (Nat.le_trans H.tb.m.size_le hn)
  have c0 := H.tb.cell
  clear H hn
  obtain ⟨r, hr⟩ : ∃ r, r = w.heap.size := ⟨_, rfl⟩
  go_enter Tryz.func30, Tryz.ntmps30
  go_wp2_with (at_range; refine wpList_range_own _ rfl _ 49 rfl 53 55 K Tryz.underlying49 rR b n D rfl H'.out.tb.m ?_; intro w0 hrg0 hg0 hs0)
  go_frame
  rw [← hr] at hrg0 ⊢
  have S0 : Hid (Rg w t b r n (Maps.has D) (Maps.size D) w0) := Lib.hid (by
    have bl : Below w.heap.size w w0 := (Below.refl _ w).grown hg0 (Nat.le_refl _) (fun k e => by cases e)
    exact ⟨(bl.block t (lt_of_some H'.out.tb.t)).trans H'.out.tb.t, ⟨D, hrg0⟩, H'.out.hm.below bl, Below.kept bl _⟩)
  have RB : Hid (w.heap.size ≤ r ∧ b < w.heap.size ∧ t < w.heap.size ∧ t ≠ b) := Lib.hid ⟨by rw [hr]; exact Nat.le_refl _, H'.out.tb.m.lt, lt_of_some H'.out.tb.t, H'.out.tb.ne⟩
  clear hrg0 hg0 hs0 hr c0
  go_loopw [5] (fun s wr => ∃ (left : Lit → Bool) (cnt k : Nat), s = .int .i64 k ∧ Hid (Rg w t b r n left cnt wr ∧ k + cnt ≤ Maps.size D)) (fun _ wr => wr.rangeLeft b r)
  case atStart => exact ⟨_, _, 0, rfl, Lib.hid ⟨S0.out, by omega⟩⟩
  case round =>
    clear S0
    obtain ⟨left, cnt, k, rfl, S⟩ := hrel
    have hk : (k : Int) < 1000001 := by have := S.out.2; have := SZ.out; omega
    obtain ⟨D1, hD1⟩ := S.out.1.m
    have R1 := Lib.hid hD1
    clear hD1
    go_wp2_with (at_next; refine wpList_next_ranges _ rfl _ rfl 53 K rR (fun x : ByteArray × ByteArray => pv x.1 x.2) (fun x : ByteArray × Int => rv x.1 x.2) (fun key l h => (key_inv key l h).imp fun _ q => q.1) (fun v y h => (rR_inv v y h).imp fun _ q => q.1) b r n D1 left cnt rfl R1.out ?_ ?_)
    · intro h0 hl
      go_wp2_with fail
      go_ret
      exact ⟨k, D1, rfl, ⟨⟨S.out.1.t, R1.out.owns⟩, S.out.1.hm⟩, S.out.1.k⟩
    · rintro p2 q2 s2 v2 l2 yd yp w2 cnt2 hkey hl2 hR hat hrg2 hlt hg2 hs2 hen
      have KY := Lib.hid hkey
      unfold pv rv at hen
      obtain ⟨A2, hA2⟩ : ∃ A, A = w2.alloc (.cells #[.string p2, .string q2] 53) := ⟨_, rfl⟩
      have S2 : Hid (A2.ranges Tryz.prog 53 rR b r n D1 (fun z => left z && !z.sameKey l2) cnt2 ∧ cnt2 < cnt ∧ Rg w t b r n (fun z => left z && !z.sameKey l2) cnt2 A2 ∧ A2.cell? ⟨w2.heap.size, 0, none⟩ = some (.string p2) ∧ A2.cell? ⟨w2.heap.size, 1, none⟩ = some (.string q2)) := Lib.hid (by
        have rg : A2.ranges Tryz.prog 53 rR b r n D1 (fun z => left z && !z.sameKey l2) cnt2 := by rw [hA2]; exact hrg2.alloc _
        have k1 : Kept (fun y => y = r) wr w2 := (grown_kept hg2).mono (fun y _ e => Option.some.inj e)
        have bA : Below w2.heap.size w2 A2 := by rw [hA2]; exact (Below.refl _ _).alloc (Nat.le_refl _) _
        have sz := S.out.1.k.size
        have rb := RB.out
        have t2 : w2.heap[t]? = some (.cells #[.map (some b)] 51 (0, 0)) := (k1.block t (lt_of_some S.out.1.t) (by omega)).trans S.out.1.t
        have m2 : L.HasM w2 := by
          obtain ⟨m, hc⟩ := S.out.1.hm
          refine ⟨m, (World.cell?_of_block (k1.block _ (block_lt_of_cell hc) (fun e => ?_))).trans hc⟩
          obtain ⟨es, clock, since, seen, c1, _, _, _, _, ho, _⟩ := R1.out
          have e' : wr.heap[0]? = some (.mapIter (some b) since seen c1) := by rw [← ho]; exact congrArg (fun x => wr.heap[x]?) e
          simp [World.cell?, e'] at hc
        refine ⟨rg, hlt, ⟨(bA.block t (lt_of_some t2)).trans t2, ⟨D1, rg⟩, m2.below bA, ?_⟩, by rw [hA2, World.cell?_alloc_new]; rfl, by rw [hA2, World.cell?_alloc_new]; rfl⟩
        exact (S.out.1.k.trans k1 (fun y hy e => by omega)).trans (Below.kept bA (fun _ => False)) (fun _ _ z => z.elim))
      have hA2' := hA2.symm
      clear hkey hl2 hR hat hrg2 hlt hg2 hs2 hA2
      by_cases he : p2 = p
      · subst he
        have RW : Hid (A2.drew.ranges Tryz.prog 53 rR b r n D1 (fun z => left z && !z.sameKey l2) cnt2) := Lib.hid S2.out.1
        obtain ⟨A3, cnt3, hdel, hrg3, hle3, htu3⟩ := World.ranges.drop (w := A2.drew) RW.out K Tryz.underlying49 KY.out 0
        unfold pv at hdel
        have f0 := S2.out.2.2.1.cell
        have f1 := S2.out.2.2.2.1
        have f2 := S2.out.2.2.2.2
        have d0 : A2.drew.cell? ⟨t, 0, none⟩ = some (.map (some b)) := f0
        have d1 : A2.drew.cell? ⟨w2.heap.size, 0, none⟩ = some (.string p2) := f1
        have d2 : A2.drew.cell? ⟨w2.heap.size, 1, none⟩ = some (.string q2) := f2
        have KP : Hid (∀ (g i : Nat) (y : Value), A2.drew.cell? ⟨g, i, none⟩ = some y → A3.cell? ⟨g, i, none⟩ = some y) := Lib.hid (fun g i y h => by
          have hne : g ≠ b := fun e => by
            obtain ⟨es, clock, hb, _⟩ := RW.out.owns
            rw [e] at h
            simp [World.cell?, hb] at h
          rw [World.cell?_of_block (htu3.grown.block g (block_lt_of_cell h) (fun e => hne (Option.some.inj e)))]
          exact h)
        have u0 := KP.out _ _ _ d0
        have u1 := KP.out _ _ _ d1
        have u2 := KP.out _ _ _ d2
        have S3 : Hid (A3.ranges Tryz.prog 53 rR b r n (D1.del l2) (fun z => left z && !z.sameKey l2) cnt3 ∧ cnt3 ≤ cnt2 ∧ Rg w t b r n (fun z => left z && !z.sameKey l2) cnt3 A3) := Lib.hid (by
          rw [Maps.strike_twice] at hrg3
          have gr := htu3.grown
          have kp0 : Kept (fun y => y = b) A2.drew A3 := (grown_kept gr).mono (fun y _ e => Option.some.inj e)
          have kp : Kept (fun y => y = b) A2 A3 := (Below.kept ((Below.refl _ A2).drew) _).trans kp0 (fun _ _ e => e)
          have rb := RB.out
          exact ⟨hrg3, hle3, ⟨(kp.block t (lt_of_some S2.out.2.2.1.t) (by omega)).trans S2.out.2.2.1.t, ⟨_, hrg3⟩, hm_kept S2.out.2.2.1.hm kp (by obtain ⟨es, c, hb, _⟩ := S2.out.1.owns; exact ⟨es, c, hb⟩), S2.out.2.2.1.k.trans kp (fun _ _ e => e)⟩⟩)
        clear hrg3 hle3 htu3
        go_wp2_with fail
        go_region_held3 (fun W : World => W.cell? ⟨t, 0, none⟩ = some (.map (some b)) ∧ W.cell? ⟨w2.heap.size, 0, none⟩ = some (.string p2) ∧ W.cell? ⟨w2.heap.size, 1, none⟩ = some (.string q2)) (first | exact ⟨by assumption, by assumption, by assumption⟩ | go_keep) (fail)
        all_goals
          go_wp2_with fail
          go_roundw
          case rel => exact ⟨_, cnt3, k + 1, by go_num, Lib.hid ⟨S3.out.2.2, by have := S.out.2; have := S2.out.2.1; have := S3.out.2.1; omega⟩⟩
          case measure => rw [S3.out.1.left_eq, R1.out.left_eq]; have := S2.out.2.1; have := S3.out.2.1; omega
      · have ge := teq_no he
        clear he
        have f1 := S2.out.2.2.2.1
        have f2 := S2.out.2.2.2.2
        go_wp2_with fail
        go_roundw
        case rel => exact ⟨_, cnt2, k, rfl, Lib.hid ⟨S2.out.2.2.1, by have := S.out.2; have := S2.out.2.1; omega⟩⟩
        case measure => rw [S2.out.1.left_eq, R1.out.left_eq]; exact S2.out.2.1
end Ac
end Go.Proofs.YtdhnpgciclbfeaaGreatDoor
