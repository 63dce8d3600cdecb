/-
  The iterator of giving.
-/
import Derived.Test.YtdhnpgciclbfeaaGreatDoorAcG
namespace Go.Proofs.YtdhnpgciclbfeaaGreatDoor
open Go.RowKit Go.Shelf
namespace Ac
theorem grown_of_below {w w' : World} (h : Below w.heap.size w w') : w.grownBy w' none := ⟨h.os, h.tape, h.output, h.size, fun i hi _ => h.block i hi⟩
set_option maxHeartbeats 8000000 in
set_option maxRecDepth 100000 in
theorem giv1 (n : Nat) (hn : 2 ≤ n) (t b nn c1 c2 c3 : Nat) (D : DataW Unit) (u : ByteArray) (v : Int) (w : World) (H : Tb w t b nn D) (h1 : w.cell? ⟨c1, 0, none⟩ = some (.pointer (some ⟨t, 0, none⟩))) (h2 : w.cell? ⟨c2, 0, none⟩ = some (.string u)) (h3 : w.cell? ⟨c3, 0, none⟩ = some (.int .i64 v)) :
    SeqStopsK Fence.wide n Tryz.prog 40 #[.pointer (some ⟨c1, 0, none⟩), .pointer (some ⟨c2, 0, none⟩), .pointer (some ⟨c3, 0, none⟩)] (fun x : Bd => #[x.val]) (Kg t c1 c2 c3) (fun xs => ∀ x, x ∈ xs ↔ InD D x ∧ isB x.s x.v u v = true) (fun _ => True) (Maps.size D) w := fun l J Jx W hW aJ aJx hY h0 => by
  have HW := Lib.hid (H.below hW)
  have AJ := Lib.hid aJ
  have CC : Hid (W.cell? ⟨c1, 0, none⟩ = some (.pointer (some ⟨t, 0, none⟩)) ∧ W.cell? ⟨c2, 0, none⟩ = some (.string u) ∧ W.cell? ⟨c3, 0, none⟩ = some (.int .i64 v)) := Lib.hid ⟨(hW.cell (block_lt_of_cell h1)).trans h1, (hW.cell (block_lt_of_cell h2)).trans h2, (hW.cell (block_lt_of_cell h3)).trans h3⟩
  have d1 := CC.out.1
  have k0 := HW.out.cell
  have J0 := Lib.hid h0
  have YY := Lib.hid hY
  clear H hW aJ aJx hY h0 h1 h2 h3
  obtain ⟨r, hr⟩ : ∃ r, r = W.heap.size := ⟨_, rfl⟩
  refine callsIn_of_wp Tryz.func40 rfl trivial ?_ rfl
  simp only [Tryz.ntmps40, List.size_toArray, List.length_cons, List.length_nil, Nat.reduceAdd, Nat.reduceSub, Array.replicate_succ, Array.replicate_zero, List.push_toArray, List.append_toArray, List.nil_append, List.cons_append]
  gi_wp2_with (first
    | (gi_at_range; refine wpListIn_range_own _ rfl _ 49 rfl 53 55 K Tryz.underlying49 rR b nn D rfl HW.out.m ?_; intro w0 hrg0 hg0 hs0)
    | gi_in)
  try go_frame
  rw [← hr] at hrg0 ⊢
  have bl0 : Below W.heap.size W w0 := (Below.refl _ W).grown hg0 (Nat.le_refl _) (fun k e => by cases e)
  have S0 : Hid (w0.ranges Tryz.prog 53 rR b r nn D (Maps.has D) (Maps.size D) ∧ J [] w0 ∧ w0.heap[t]? = some (.cells #[.map (some b)] 51 (0, 0)) ∧ (w0.cell? ⟨c1, 0, none⟩ = some (.pointer (some ⟨t, 0, none⟩)) ∧ w0.cell? ⟨c2, 0, none⟩ = some (.string u) ∧ w0.cell? ⟨c3, 0, none⟩ = some (.int .i64 v)) ∧ W.heap.size ≤ w0.heap.size) := Lib.hid ⟨hrg0, AJ.out [] W w0 none J0.out hg0 (fun r e => by cases e), (bl0.block t (lt_of_some HW.out.t)).trans HW.out.t, ⟨(bl0.cell (block_lt_of_cell CC.out.1)).trans CC.out.1, (bl0.cell (block_lt_of_cell CC.out.2.1)).trans CC.out.2.1, (bl0.cell (block_lt_of_cell CC.out.2.2)).trans CC.out.2.2⟩, bl0.size⟩
  have RB : Hid (r = W.heap.size ∧ t < W.heap.size ∧ c1 < W.heap.size ∧ c2 < W.heap.size ∧ c3 < W.heap.size) := Lib.hid ⟨hr, lt_of_some HW.out.t, block_lt_of_cell CC.out.1, block_lt_of_cell CC.out.2.1, block_lt_of_cell CC.out.2.2⟩
  clear hrg0 hg0 hs0 hr bl0 d1 k0 J0
  gi_loopw [12] (fun _ wr => ∃ (left : Lit → Bool) (cnt : Nat) (ss : List Bd), Hid (wr.ranges Tryz.prog 53 rR b r nn D left cnt ∧ ss.length + cnt ≤ Maps.size D ∧ Coll D u v left ss ∧ J ss wr ∧ wr.heap[t]? = some (.cells #[.map (some b)] 51 (0, 0)) ∧ (wr.cell? ⟨c1, 0, none⟩ = some (.pointer (some ⟨t, 0, none⟩)) ∧ wr.cell? ⟨c2, 0, none⟩ = some (.string u) ∧ wr.cell? ⟨c3, 0, none⟩ = some (.int .i64 v)) ∧ W.heap.size ≤ wr.heap.size)) (fun _ wr => wr.rangeLeft b r)
  case atStart => exact ⟨_, _, [], Lib.hid ⟨S0.out.1, by simp, Coll.start, S0.out.2.1, S0.out.2.2.1, S0.out.2.2.2.1, S0.out.2.2.2.2⟩⟩
  case round =>
    clear S0
    obtain ⟨left, cnt, ss, S⟩ := hrel
    gi_wp2_with (first
      | (gi_at_next; refine wpListIn_next_ranges _ rfl _ rfl 53 K rR (fun x : ByteArray × ByteArray => pv x.1 x.2) (fun x : ByteArray × Int => rv x.1 x.2) (fun key l h => (key_inv key l h).imp fun _ q => q.1) (fun v y h => (rR_inv v y h).imp fun _ q => q.1) b r nn D left cnt rfl S.out.1 ?_ ?_)
      | gi_in)
    · intro hc0 hl0
      gi_wp2
      go_end0
      exact ⟨⟨_, rfl⟩, .inl ⟨ss, S.out.2.2.1.all hl0, S.out.2.2.2.1⟩⟩
    · rintro p2 q2 s2 v2 l2 yd yp w2 cnt2 hkey hl2 hR hat hrg2 hlt hg2 hs2 hen
      have IN : Hid (InD D ⟨p2, q2, s2, v2⟩ ∧ l2 = kl p2 q2) := Lib.hid (by
        obtain ⟨⟨a, b'⟩, e1, e2, e3, e4⟩ := key_inv _ _ hkey
        unfold pv at e1
        simp only [Value.agg.injEq, Array.mk.injEq, List.cons.injEq, Value.string.injEq, and_true] at e1
        obtain ⟨f1, f2⟩ := e1
        subst f1 f2
        obtain ⟨c, g1, g2⟩ := rR_inv _ _ hR
        unfold rv at g1
        simp only [Value.agg.injEq, Array.mk.injEq, List.cons.injEq, Value.string.injEq, Value.int.injEq, true_and, and_true] at g1
        simp only [Prod.mk.injEq] at g2
        refine ⟨⟨fun zd => ?_, e3, e4⟩, e2⟩
        show D.atKey (kl p2 q2) zd = eR s2 v2
        rw [← e2, hat zd, g2.1, g1.1, g1.2])
      unfold pv rv at hen
      have k2 : Kept (fun y => y = r) wr w2 := (grown_kept hg2).mono (fun y _ e => Option.some.inj e)
      have S2 : Hid (w2.ranges Tryz.prog 53 rR b r nn D (fun z => left z && !z.sameKey l2) cnt2 ∧ cnt2 < cnt ∧ J ss w2 ∧ w2.heap[t]? = some (.cells #[.map (some b)] 51 (0, 0)) ∧ (w2.cell? ⟨c1, 0, none⟩ = some (.pointer (some ⟨t, 0, none⟩)) ∧ w2.cell? ⟨c2, 0, none⟩ = some (.string u) ∧ w2.cell? ⟨c3, 0, none⟩ = some (.int .i64 v)) ∧ W.heap.size ≤ w2.heap.size) := Lib.hid (by
        have rb := RB.out
        have nc : ∀ {c : Nat} {y : Value}, c < W.heap.size → wr.cell? ⟨c, 0, none⟩ = some y → w2.cell? ⟨c, 0, none⟩ = some y := fun hc h => (World.cell?_of_block (k2.block _ (block_lt_of_cell h) (fun e => by simp only at e; omega))).trans h
        exact ⟨hrg2, hlt, AJ.out ss wr w2 (some r) S.out.2.2.2.1 hg2 (fun x e => by cases e; exact ⟨by omega, S.out.1.iter_walk⟩), (k2.block t (lt_of_some S.out.2.2.2.2.1) (by omega)).trans S.out.2.2.2.2.1, ⟨nc rb.2.2.1 S.out.2.2.2.2.2.1.1, nc rb.2.2.2.1 S.out.2.2.2.2.2.1.2.1, nc rb.2.2.2.2 S.out.2.2.2.2.2.1.2.2⟩, Nat.le_trans S.out.2.2.2.2.2.2 k2.size⟩)
      clear hkey hl2 hR hat hrg2 hlt hg2 hs2 k2
      have IS := Lib.hid (is_any s2 v2 u v)
      obtain ⟨A2, hA2⟩ : ∃ A, A = (w2.alloc (.cells #[.string p2, .string q2] 53)).alloc (.cells #[.string s2, .int .i64 v2] 55) := ⟨_, rfl⟩
      have bA : Below w2.heap.size w2 A2 := by rw [hA2]; exact ((Below.refl _ w2).alloc (Nat.le_refl _) _).alloc (by simp) _
      have AA : Hid (Below w2.heap.size w2 A2 ∧ A2.heap[w2.heap.size]? = some (.cells #[.string p2, .string q2] 53 (0, 0)) ∧ A2.heap[w2.heap.size + 1]? = some (.cells #[.string s2, .int .i64 v2] 55 (0, 0))) := Lib.hid ⟨bA, by
        rw [hA2, Below.heap_alloc _ _ _ (by simp)]; exact heap_alloc_new _ _, by
        have := heap_alloc_new (w2.alloc (.cells #[.string p2, .string q2] 53)) (.cells #[.string s2, .int .i64 v2] 55)
        rw [World.size_alloc] at this
        rw [hA2]; exact this⟩
      have q2c : ((w2.alloc (.cells #[.string p2, .string q2] 53)).alloc (.cells #[.string s2, .int .i64 v2] 55)).cell? ⟨c2, 0, none⟩ = some (.string u) := cellA (cellA S2.out.2.2.2.2.1.2.1 _) _
      have q3c : ((w2.alloc (.cells #[.string p2, .string q2] 53)).alloc (.cells #[.string s2, .int .i64 v2] 55)).cell? ⟨c3, 0, none⟩ = some (.int .i64 v) := cellA (cellA S2.out.2.2.2.2.1.2.2 _) _
      clear bA
      unfold rv at IS
      gi_wp2_with fail
      rw [← hA2]
      clear hA2 q2c q3c hen
      refine ⟨trivial, fun _ => by omega, (callsIn_wide.2 (IS.out A2)).mono ?_⟩
      rintro e w3 ⟨rfl, hb3⟩
      have B3 := Lib.hid (AA.out.1.trans (hb3.mono AA.out.1.size))
      have P3 : Hid (w3.heap[w2.heap.size]? = some (.cells #[.string p2, .string q2] 53 (0, 0)) ∧ w3.heap[w2.heap.size + 1]? = some (.cells #[.string s2, .int .i64 v2] 55 (0, 0))) := Lib.hid ⟨(hb3.block _ (lt_of_some AA.out.2.1)).trans AA.out.2.1, (hb3.block _ (lt_of_some AA.out.2.2)).trans AA.out.2.2⟩
      clear hb3 IS
      have carry : Hid (∀ W', Below w2.heap.size w2 W' → W'.ranges Tryz.prog 53 rR b r nn D (fun z => left z && !z.sameKey l2) cnt2 ∧ J ss W' ∧ W'.heap[t]? = some (.cells #[.map (some b)] 51 (0, 0)) ∧ (W'.cell? ⟨c1, 0, none⟩ = some (.pointer (some ⟨t, 0, none⟩)) ∧ W'.cell? ⟨c2, 0, none⟩ = some (.string u) ∧ W'.cell? ⟨c3, 0, none⟩ = some (.int .i64 v)) ∧ W.heap.size ≤ W'.heap.size) := Lib.hid fun W' h => by
        have gr := grown_of_below h
        obtain ⟨x1, x2, x3, x4, x5, x6⟩ := S2.out
        exact ⟨x1.kept gr (by simp) (by simp), AJ.out ss w2 W' none x3 gr (fun r e => by cases e), (h.block t (lt_of_some x4)).trans x4, ⟨(h.cell (block_lt_of_cell x5.1)).trans x5.1, (h.cell (block_lt_of_cell x5.2.1)).trans x5.2.1, (h.cell (block_lt_of_cell x5.2.2)).trans x5.2.2⟩, Nat.le_trans x6 h.size⟩
      cases hi : isB s2 v2 u v with
      | false =>
        obtain ⟨y1, y2, y3, y4, y5⟩ := carry.out w3 B3.out
        have YC := Lib.hid (And.intro y1 (And.intro y2 (And.intro y3 (And.intro y4 y5))))
        clear y1 y2 y3 y4 y5
        have LN : ss.length + cnt2 ≤ Maps.size D := by have := S.out.2.1; have := S2.out.2.1; omega
        have CO : Coll D u v (fun z => left z && !z.sameKey l2) ss := by rw [IN.out.2]; exact Coll.skip (x := ⟨p2, q2, s2, v2⟩) S.out.2.2.1 IN.out.1 hi
        have ME : w3.rangeLeft b r < wr.rangeLeft b r := by rw [YC.out.1.left_eq, S.out.1.left_eq]; exact S2.out.2.1
        have FIN : Hid ((∃ (left : Lit → Bool) (cnt : Nat) (ss : List Bd), Hid (w3.ranges Tryz.prog 53 rR b r nn D left cnt ∧ ss.length + cnt ≤ Maps.size D ∧ Coll D u v left ss ∧ J ss w3 ∧ w3.heap[t]? = some (.cells #[.map (some b)] 51 (0, 0)) ∧ (w3.cell? ⟨c1, 0, none⟩ = some (.pointer (some ⟨t, 0, none⟩)) ∧ w3.cell? ⟨c2, 0, none⟩ = some (.string u) ∧ w3.cell? ⟨c3, 0, none⟩ = some (.int .i64 v)) ∧ W.heap.size ≤ w3.heap.size)) ∧ w3.rangeLeft b r < wr.rangeLeft b r) := Lib.hid ⟨⟨fun z => left z && !z.sameKey l2, cnt2, ss, Lib.hid ⟨YC.out.1, LN, CO, YC.out.2.1, YC.out.2.2.1, YC.out.2.2.2.1, YC.out.2.2.2.2⟩⟩, ME⟩
        clear LN CO ME
        gi_wp2_with fail
        refine ⟨trivial, ?_⟩
        gi_wp2
        refine ⟨fun _ h => (by cases h), ?_⟩
        gi_wp2
        exact FIN.out
      | true =>
        have f0 : w3.cell? ⟨w2.heap.size, 0, none⟩ = some (.string p2) := by rw [cell_of_row _ _ _ _ _ _ P3.out.1]; rfl
        have f1 : w3.cell? ⟨w2.heap.size, 1, none⟩ = some (.string q2) := by rw [cell_of_row _ _ _ _ _ _ P3.out.1]; rfl
        have f2 : w3.cell? ⟨w2.heap.size + 1, 0, none⟩ = some (.string s2) := by rw [cell_of_row _ _ _ _ _ _ P3.out.2]; rfl
        have f3 : w3.cell? ⟨w2.heap.size + 1, 1, none⟩ = some (.int .i64 v2) := by rw [cell_of_row _ _ _ _ _ _ P3.out.2]; rfl
        have WI := Lib.hid (with_any p2 q2 s2 v2 w3)
        unfold pv rv Bd.val at WI
        simp only at WI
        gi_wp2_with fail
        refine ⟨trivial, fun _ => by omega, (callsIn_wide.2 WI.out).mono ?_⟩
        rintro e w4 ⟨rfl, hb4⟩
        have B4 := Lib.hid (B3.out.trans (hb4.mono B3.out.size))
        obtain ⟨y1, y2, y3, y4, y5⟩ := carry.out w4 B4.out
        obtain ⟨fn, tmps, assign, body, hy, hR⟩ := YY.out ss ⟨p2, q2, s2, v2⟩ w4 y2 (by have := S.out.2.1; have := S2.out.2.1; omega)
        unfold Bd.val at hy
        simp only at hy
        have YC := Lib.hid (And.intro y1 (And.intro y2 (And.intro y3 (And.intro y4 y5))))
        have HR := Lib.hid hR
        clear y1 y2 y3 y4 y5 hb4 WI f0 f1 f2 f3 hR
        gi_wp2_with fail
        refine ⟨fun _ => by omega, HR.out.mono ?_⟩
        rintro e W5 (⟨rfl, hJ5, hk5⟩ | ⟨rfl, hJx5⟩)
        · have Y5 : Hid (W5.ranges Tryz.prog 53 rR b r nn D (fun z => left z && !z.sameKey l2) cnt2 ∧ J (ss ++ [⟨p2, q2, s2, v2⟩]) W5 ∧ W5.heap[t]? = some (.cells #[.map (some b)] 51 (0, 0)) ∧ (W5.cell? ⟨c1, 0, none⟩ = some (.pointer (some ⟨t, 0, none⟩)) ∧ W5.cell? ⟨c2, 0, none⟩ = some (.string u) ∧ W5.cell? ⟨c3, 0, none⟩ = some (.int .i64 v)) ∧ W.heap.size ≤ W5.heap.size) := Lib.hid (by
            obtain ⟨x1, _, x3, x4, x5⟩ := YC.out
            exact ⟨x1.of_walks hk5.1, hJ5, (hk5.2 t (Or.inl rfl)).trans x3, ⟨(World.cell?_of_block (hk5.2 c1 (Or.inr (Or.inl rfl)))).trans x4.1, (World.cell?_of_block (hk5.2 c2 (Or.inr (Or.inr (Or.inl rfl))))).trans x4.2.1, (World.cell?_of_block (hk5.2 c3 (Or.inr (Or.inr (Or.inr rfl))))).trans x4.2.2⟩, Nat.le_trans x5 hk5.1.size⟩)
          clear hJ5 hk5
          have LN : (ss ++ [(⟨p2, q2, s2, v2⟩ : Bd)]).length + cnt2 ≤ Maps.size D := by have := S.out.2.1; have := S2.out.2.1; simp; omega
          have CO : Coll D u v (fun z => left z && !z.sameKey l2) (ss ++ [(⟨p2, q2, s2, v2⟩ : Bd)]) := by rw [IN.out.2]; exact Coll.step (x := ⟨p2, q2, s2, v2⟩) S.out.2.2.1 IN.out.1 hi
          have ME : W5.rangeLeft b r < wr.rangeLeft b r := by rw [Y5.out.1.left_eq, S.out.1.left_eq]; exact S2.out.2.1
          have FIN : Hid ((∃ (left : Lit → Bool) (cnt : Nat) (ss : List Bd), Hid (W5.ranges Tryz.prog 53 rR b r nn D left cnt ∧ ss.length + cnt ≤ Maps.size D ∧ Coll D u v left ss ∧ J ss W5 ∧ W5.heap[t]? = some (.cells #[.map (some b)] 51 (0, 0)) ∧ (W5.cell? ⟨c1, 0, none⟩ = some (.pointer (some ⟨t, 0, none⟩)) ∧ W5.cell? ⟨c2, 0, none⟩ = some (.string u) ∧ W5.cell? ⟨c3, 0, none⟩ = some (.int .i64 v)) ∧ W.heap.size ≤ W5.heap.size)) ∧ W5.rangeLeft b r < wr.rangeLeft b r) := Lib.hid ⟨⟨fun z => left z && !z.sameKey l2, cnt2, ss ++ [⟨p2, q2, s2, v2⟩], Lib.hid ⟨Y5.out.1, LN, CO, Y5.out.2.1, Y5.out.2.2.1, Y5.out.2.2.2.1, Y5.out.2.2.2.2⟩⟩, ME⟩
          clear LN CO ME
          gi_wp2
          exact FIN.out
        · have JX := Lib.hid hJx5
          clear hJx5
          gi_wp2
          first | go_end0 | refine bodyPost_ret (results_none rfl _ _ _) rfl ?_
          exact ⟨⟨_, rfl⟩, .inr ⟨_, trivial, JX.out⟩⟩
end Ac
end Go.Proofs.YtdhnpgciclbfeaaGreatDoor
