/-
  AcG, AcH, AcP, AcW, AcY, AcV, joined.
-/
import Derived.Test.YthdofbjijpghfaaGreatDoorMgC
import Derived.RangeFuncNested
import Derived.RangeFuncBound
import Derived.RangeFuncCalls
import Derived.RangeFuncLeaves
import Derived.RangeFuncWrites
import Derived.RangeFuncStops
import Derived.RangeFuncKeeps
import Derived.Sort.MapsRangeIn
import Derived.Maps.OwnIn
import Derived.LoopIn
import Derived.LoopNIn
import Derived.TacticsInMore
import Derived.Shelf.RegionOpen
section S0
namespace Go.Proofs.YthdofbjijpghfaaGreatDoor
open Go.RowKit Go.Shelf
namespace Ac
/-- The binding stands in the table. -/
def InD (D : DataW Unit) (x : Bd) : Prop := (∀ zd, D.atKey (kl x.p x.n) zd = eR x.s x.v) ∧ x.p.size ≤ maxLen ∧ x.n.size ≤ maxLen
theorem kl_inj {p n p' n' : ByteArray} (h : kl p n = kl p' n') (h1 : p.size ≤ maxLen) (h2 : n.size ≤ maxLen) (h3 : p'.size ≤ maxLen) (h4 : n'.size ≤ maxLen) : p = p' ∧ n = n' := by
  have e := K.inj (key_mk p n h1 h2) (by rw [h]; exact key_mk p' n' h3 h4)
  unfold pv at e
  simp only [Value.agg.injEq, Array.mk.injEq, List.cons.injEq, Value.string.injEq, and_true] at e
  exact e
theorem same_kl (p n : ByteArray) : (kl p n).sameKey (kl p n) = true := by unfold kl; simp [Lit.sameKey]
/-- What has come when just the keys in left are still to come. -/
def Coll (D : DataW Unit) (u : ByteArray) (v : Int) (left : Lit → Bool) (ss : List Bd) : Prop := ∀ x : Bd, x ∈ ss ↔ (InD D x ∧ isB x.s x.v u v = true ∧ left (kl x.p x.n) = false)
variable {D : DataW Unit} {u : ByteArray} {v : Int} {left : Lit → Bool} {ss : List Bd}
theorem Coll.start : Coll D u v (Maps.has D) [] := fun x => by
  refine ⟨fun h => by simp at h, fun h => ?_⟩
  rw [Maps.has_true_of_atKey h.1.1] at h
  simp at h
theorem Coll.skip (h : Coll D u v left ss) {x : Bd} (hx : InD D x) (hn : isB x.s x.v u v = false) : Coll D u v (fun z => left z && !z.sameKey (kl x.p x.n)) ss := fun y => by
  rw [h y]
  refine ⟨fun ⟨a, b, c⟩ => ⟨a, b, by simp [c]⟩, fun ⟨a, b, c⟩ => ⟨a, b, ?_⟩⟩
  by_cases e : kl y.p y.n = kl x.p x.n
  · have q := a.1 (.map [])
    rw [e, hx.1] at q
    obtain ⟨q1, q2⟩ := eR_inj q
    rw [← q1, ← q2, hn] at b
    simp at b
  · simpa [Maps.sameKey_ne e] using c
theorem Coll.step (h : Coll D u v left ss) {x : Bd} (hx : InD D x) (hn : isB x.s x.v u v = true) : Coll D u v (fun z => left z && !z.sameKey (kl x.p x.n)) (ss ++ [x]) := fun y => by
  rw [List.mem_append, List.mem_singleton, h y]
  constructor
  · rintro (⟨a, b, c⟩ | rfl)
    · exact ⟨a, b, by simp [c]⟩
    · exact ⟨hx, hn, by simp [same_kl]⟩
  · rintro ⟨a, b, c⟩
    by_cases e : kl y.p y.n = kl x.p x.n
    · refine Or.inr ?_
      have q := a.1 (.map [])
      rw [e, hx.1] at q
      obtain ⟨q1, q2⟩ := eR_inj q
      obtain ⟨r1, r2⟩ := kl_inj e a.2.1 a.2.2 hx.2.1 hx.2.2
      cases x; cases y
      simp only at q1 q2 r1 r2
      rw [q1, q2, r1, r2]
    · exact Or.inl ⟨a, b, by simpa [Maps.sameKey_ne e] using c⟩
theorem Coll.all (h : Coll D u v left ss) (hl : ∀ k, left k = false) : ∀ x, x ∈ ss ↔ InD D x ∧ isB x.s x.v u v = true := fun x => by
  rw [h x, hl]
  simp
/-- The boxes that the closure has captured. -/
def gW (w : World) (t : Nat) (u : ByteArray) (v : Int) : World := ((w.alloc (.cells #[.pointer (some ⟨t, 0, none⟩)] 23)).alloc (.cells #[.string u] 9)).alloc (.cells #[.int .i64 v] 3)
def gF (w : World) : Value := .func (.func 56) #[] #[.pointer (some ⟨w.heap.size, 0, none⟩), .pointer (some ⟨w.heap.size + 1, 0, none⟩), .pointer (some ⟨w.heap.size + 1 + 1, 0, none⟩)]
theorem giving_any (t : Nat) (u : ByteArray) (v : Int) (w : World) : Calls Tryz.prog 37 #[.pointer (some ⟨t, 0, none⟩), .string u, .int .i64 v] w fun e w' => e = .returned (gF w) ∧ w' = gW w t u v := by
  unfold gF gW
  go_enter Tryz.func37, Tryz.ntmps37
  go_wp2
  go_ret
  exact ⟨rfl, rfl⟩
/-- What a round must keep. -/
def Kg (t c1 c2 c3 : Nat) (W W' : World) : Prop := KeepsWalks W W' ∧ ∀ y, y = t ∨ y = c1 ∨ y = c2 ∨ y = c3 → W'.heap[y]? = W.heap[y]?
end Ac
end Go.Proofs.YthdofbjijpghfaaGreatDoor
end S0

section S1
namespace Go.Proofs.YthdofbjijpghfaaGreatDoor
open Go.RowKit Go.Shelf
namespace Ac
theorem grown_of_below {w w' : World} (h : Below w.heap.size w w') : w.grownBy w' none := ⟨h.os, h.tape, h.output, h.size, fun i hi _ => h.block i hi⟩
set_option maxHeartbeats 8000000 in
set_option maxRecDepth 100000 in
theorem giv1 (n : Nat) (hn : 2 ≤ n) (t b nn c1 c2 c3 : Nat) (D : DataW Unit) (u : ByteArray) (v : Int) (w : World) (H : Tb w t b nn D) (h1 : w.cell? ⟨c1, 0, none⟩ = some (.pointer (some ⟨t, 0, none⟩))) (h2 : w.cell? ⟨c2, 0, none⟩ = some (.string u)) (h3 : w.cell? ⟨c3, 0, none⟩ = some (.int .i64 v)) :
    SeqStopsK Fence.wide n Tryz.prog 56 #[.pointer (some ⟨c1, 0, none⟩), .pointer (some ⟨c2, 0, none⟩), .pointer (some ⟨c3, 0, none⟩)] (fun x : Bd => #[x.val]) (Kg t c1 c2 c3) (fun xs => ∀ x, x ∈ xs ↔ InD D x ∧ isB x.s x.v u v = true) (fun _ => True) (Maps.size D) w := fun l J Jx W hW aJ aJx hY h0 => by
  have HW := Lib.hid (H.below hW)
  have AJ := Lib.hid aJ
  have CC : Hid (W.cell? ⟨c1, 0, none⟩ = some (.pointer (some ⟨t, 0, none⟩)) ∧ W.cell? ⟨c2, 0, none⟩ = some (.string u) ∧ W.cell? ⟨c3, 0, none⟩ = some (.int .i64 v)) := Lib.hid ⟨(hW.cell (block_lt_of_cell h1)).trans h1, (hW.cell (block_lt_of_cell h2)).trans h2, (hW.cell (block_lt_of_cell h3)).trans h3⟩
  have d1 := CC.out.1
  have k0 := HW.out.cell
  have J0 := Lib.hid h0
  have YY := Lib.hid hY
  clear H hW aJ aJx hY h0 h1 h2 h3
  obtain ⟨r, hr⟩ : ∃ r, r = W.heap.size := ⟨_, rfl⟩
  refine callsIn_of_wp Tryz.func56 rfl trivial ?_ rfl
  simp only [Tryz.ntmps56, List.size_toArray, List.length_cons, List.length_nil, Nat.reduceAdd, Nat.reduceSub, Array.replicate_succ, Array.replicate_zero, List.push_toArray, List.append_toArray, List.nil_append, List.cons_append]
  gi_wp2_with (first
    | (gi_at_range; refine wpListIn_range_own _ rfl _ 36 rfl 52 54 K Tryz.underlying36 rR b nn D rfl HW.out.m ?_; intro w0 hrg0 hg0 hs0)
    | gi_in)
  try go_frame
  rw [← hr] at hrg0 ⊢
  have bl0 : Below W.heap.size W w0 := (Below.refl _ W).grown hg0 (Nat.le_refl _) (fun k e => by cases e)
  have S0 : Hid (w0.ranges Tryz.prog 52 rR b r nn D (Maps.has D) (Maps.size D) ∧ J [] w0 ∧ w0.heap[t]? = some (.cells #[.map (some b)] 38 (0, 0)) ∧ (w0.cell? ⟨c1, 0, none⟩ = some (.pointer (some ⟨t, 0, none⟩)) ∧ w0.cell? ⟨c2, 0, none⟩ = some (.string u) ∧ w0.cell? ⟨c3, 0, none⟩ = some (.int .i64 v)) ∧ W.heap.size ≤ w0.heap.size) := Lib.hid ⟨hrg0, AJ.out [] W w0 none J0.out hg0 (fun r e => by cases e), (bl0.block t (lt_of_some HW.out.t)).trans HW.out.t, ⟨(bl0.cell (block_lt_of_cell CC.out.1)).trans CC.out.1, (bl0.cell (block_lt_of_cell CC.out.2.1)).trans CC.out.2.1, (bl0.cell (block_lt_of_cell CC.out.2.2)).trans CC.out.2.2⟩, bl0.size⟩
  have RB : Hid (r = W.heap.size ∧ t < W.heap.size ∧ c1 < W.heap.size ∧ c2 < W.heap.size ∧ c3 < W.heap.size) := Lib.hid ⟨hr, lt_of_some HW.out.t, block_lt_of_cell CC.out.1, block_lt_of_cell CC.out.2.1, block_lt_of_cell CC.out.2.2⟩
  clear hrg0 hg0 hs0 hr bl0 d1 k0 J0
  gi_loopw [12] (fun _ wr => ∃ (left : Lit → Bool) (cnt : Nat) (ss : List Bd), Hid (wr.ranges Tryz.prog 52 rR b r nn D left cnt ∧ ss.length + cnt ≤ Maps.size D ∧ Coll D u v left ss ∧ J ss wr ∧ wr.heap[t]? = some (.cells #[.map (some b)] 38 (0, 0)) ∧ (wr.cell? ⟨c1, 0, none⟩ = some (.pointer (some ⟨t, 0, none⟩)) ∧ wr.cell? ⟨c2, 0, none⟩ = some (.string u) ∧ wr.cell? ⟨c3, 0, none⟩ = some (.int .i64 v)) ∧ W.heap.size ≤ wr.heap.size)) (fun _ wr => wr.rangeLeft b r)
  case atStart => exact ⟨_, _, [], Lib.hid ⟨S0.out.1, by simp, Coll.start, S0.out.2.1, S0.out.2.2.1, S0.out.2.2.2.1, S0.out.2.2.2.2⟩⟩
  case round =>
    clear S0
    obtain ⟨left, cnt, ss, S⟩ := hrel
    gi_wp2_with (first
      | (gi_at_next; refine wpListIn_next_ranges _ rfl _ rfl 52 K rR (fun x : ByteArray × ByteArray => pv x.1 x.2) (fun x : ByteArray × Int => rv x.1 x.2) (fun key l h => (key_inv key l h).imp fun _ q => q.1) (fun v y h => (rR_inv v y h).imp fun _ q => q.1) b r nn D left cnt rfl S.out.1 ?_ ?_)
      | gi_in)
    · intro hc0 hl0
      gi_wp2
      go_end0
      exact ⟨⟨_, rfl⟩, .inl ⟨ss, S.out.2.2.1.all hl0, S.out.2.2.2.1⟩⟩
    · rintro p2 q2 s2 v2 l2 yd yp w2 cnt2 hkey hl2 hR hat hrg2 hlt hg2 hs2 hen
      have IN : Hid (InD D ⟨p2, q2, s2, v2⟩ ∧ l2 = kl p2 q2) := Lib.hid (by
        obtain ⟨⟨a, b'⟩, e1, e2, e3, e4⟩ := key_inv _ _ hkey
        unfold pv at e1
        simp only [Value.agg.injEq, Array.mk.injEq, List.cons.injEq, Value.string.injEq, and_true] at e1
        obtain ⟨f1, f2⟩ := e1
        subst f1 f2
        obtain ⟨c, g1, g2⟩ := rR_inv _ _ hR
        unfold rv at g1
        simp only [Value.agg.injEq, Array.mk.injEq, List.cons.injEq, Value.string.injEq, Value.int.injEq, true_and, and_true] at g1
        simp only [Prod.mk.injEq] at g2
        refine ⟨⟨fun zd => ?_, e3, e4⟩, e2⟩
        show D.atKey (kl p2 q2) zd = eR s2 v2
        rw [← e2, hat zd, g2.1, g1.1, g1.2])
      unfold pv rv at hen
      have k2 : Kept (fun y => y = r) wr w2 := (grown_kept hg2).mono (fun y _ e => Option.some.inj e)
      have S2 : Hid (w2.ranges Tryz.prog 52 rR b r nn D (fun z => left z && !z.sameKey l2) cnt2 ∧ cnt2 < cnt ∧ J ss w2 ∧ w2.heap[t]? = some (.cells #[.map (some b)] 38 (0, 0)) ∧ (w2.cell? ⟨c1, 0, none⟩ = some (.pointer (some ⟨t, 0, none⟩)) ∧ w2.cell? ⟨c2, 0, none⟩ = some (.string u) ∧ w2.cell? ⟨c3, 0, none⟩ = some (.int .i64 v)) ∧ W.heap.size ≤ w2.heap.size) := Lib.hid (by
        have rb := RB.out
        have nc : ∀ {c : Nat} {y : Value}, c < W.heap.size → wr.cell? ⟨c, 0, none⟩ = some y → w2.cell? ⟨c, 0, none⟩ = some y := fun hc h => (World.cell?_of_block (k2.block _ (block_lt_of_cell h) (fun e => by simp only at e; omega))).trans h
        exact ⟨hrg2, hlt, AJ.out ss wr w2 (some r) S.out.2.2.2.1 hg2 (fun x e => by cases e; exact ⟨by omega, S.out.1.iter_walk⟩), (k2.block t (lt_of_some S.out.2.2.2.2.1) (by omega)).trans S.out.2.2.2.2.1, ⟨nc rb.2.2.1 S.out.2.2.2.2.2.1.1, nc rb.2.2.2.1 S.out.2.2.2.2.2.1.2.1, nc rb.2.2.2.2 S.out.2.2.2.2.2.1.2.2⟩, Nat.le_trans S.out.2.2.2.2.2.2 k2.size⟩)
      clear hkey hl2 hR hat hrg2 hlt hg2 hs2 k2
      have IS := Lib.hid (is_any s2 v2 u v)
      obtain ⟨A2, hA2⟩ : ∃ A, A = (w2.alloc (.cells #[.string p2, .string q2] 52)).alloc (.cells #[.string s2, .int .i64 v2] 54) := ⟨_, rfl⟩
      have bA : Below w2.heap.size w2 A2 := by rw [hA2]; exact ((Below.refl _ w2).alloc (Nat.le_refl _) _).alloc (by simp) _
      have AA : Hid (Below w2.heap.size w2 A2 ∧ A2.heap[w2.heap.size]? = some (.cells #[.string p2, .string q2] 52 (0, 0)) ∧ A2.heap[w2.heap.size + 1]? = some (.cells #[.string s2, .int .i64 v2] 54 (0, 0))) := Lib.hid ⟨bA, by
        rw [hA2, Below.heap_alloc _ _ _ (by simp)]; exact heap_alloc_new _ _, by
        have := heap_alloc_new (w2.alloc (.cells #[.string p2, .string q2] 52)) (.cells #[.string s2, .int .i64 v2] 54)
        rw [World.size_alloc] at this
        rw [hA2]; exact this⟩
      have q2c : ((w2.alloc (.cells #[.string p2, .string q2] 52)).alloc (.cells #[.string s2, .int .i64 v2] 54)).cell? ⟨c2, 0, none⟩ = some (.string u) := cellA (cellA S2.out.2.2.2.2.1.2.1 _) _
      have q3c : ((w2.alloc (.cells #[.string p2, .string q2] 52)).alloc (.cells #[.string s2, .int .i64 v2] 54)).cell? ⟨c3, 0, none⟩ = some (.int .i64 v) := cellA (cellA S2.out.2.2.2.2.1.2.2 _) _
      clear bA
      unfold rv at IS
      gi_wp2_with fail
      rw [← hA2]
      clear hA2 q2c q3c hen
      refine ⟨trivial, fun _ => by omega, (callsIn_wide.2 (IS.out A2)).mono ?_⟩
      rintro e w3 ⟨rfl, hb3⟩
      have B3 := Lib.hid (AA.out.1.trans (hb3.mono AA.out.1.size))
      have P3 : Hid (w3.heap[w2.heap.size]? = some (.cells #[.string p2, .string q2] 52 (0, 0)) ∧ w3.heap[w2.heap.size + 1]? = some (.cells #[.string s2, .int .i64 v2] 54 (0, 0))) := Lib.hid ⟨(hb3.block _ (lt_of_some AA.out.2.1)).trans AA.out.2.1, (hb3.block _ (lt_of_some AA.out.2.2)).trans AA.out.2.2⟩
      clear hb3 IS
      have carry : Hid (∀ W', Below w2.heap.size w2 W' → W'.ranges Tryz.prog 52 rR b r nn D (fun z => left z && !z.sameKey l2) cnt2 ∧ J ss W' ∧ W'.heap[t]? = some (.cells #[.map (some b)] 38 (0, 0)) ∧ (W'.cell? ⟨c1, 0, none⟩ = some (.pointer (some ⟨t, 0, none⟩)) ∧ W'.cell? ⟨c2, 0, none⟩ = some (.string u) ∧ W'.cell? ⟨c3, 0, none⟩ = some (.int .i64 v)) ∧ W.heap.size ≤ W'.heap.size) := Lib.hid fun W' h => by
        have gr := grown_of_below h
        obtain ⟨x1, x2, x3, x4, x5, x6⟩ := S2.out
        exact ⟨x1.kept gr (by simp) (by simp), AJ.out ss w2 W' none x3 gr (fun r e => by cases e), (h.block t (lt_of_some x4)).trans x4, ⟨(h.cell (block_lt_of_cell x5.1)).trans x5.1, (h.cell (block_lt_of_cell x5.2.1)).trans x5.2.1, (h.cell (block_lt_of_cell x5.2.2)).trans x5.2.2⟩, Nat.le_trans x6 h.size⟩
      cases hi : isB s2 v2 u v with
      | false =>
        obtain ⟨y1, y2, y3, y4, y5⟩ := carry.out w3 B3.out
        have YC := Lib.hid (And.intro y1 (And.intro y2 (And.intro y3 (And.intro y4 y5))))
        clear y1 y2 y3 y4 y5
        have LN : ss.length + cnt2 ≤ Maps.size D := by have := S.out.2.1; have := S2.out.2.1; omega
        have CO : Coll D u v (fun z => left z && !z.sameKey l2) ss := by rw [IN.out.2]; exact Coll.skip (x := ⟨p2, q2, s2, v2⟩) S.out.2.2.1 IN.out.1 hi
        have ME : w3.rangeLeft b r < wr.rangeLeft b r := by rw [YC.out.1.left_eq, S.out.1.left_eq]; exact S2.out.2.1
        have FIN : Hid ((∃ (left : Lit → Bool) (cnt : Nat) (ss : List Bd), Hid (w3.ranges Tryz.prog 52 rR b r nn D left cnt ∧ ss.length + cnt ≤ Maps.size D ∧ Coll D u v left ss ∧ J ss w3 ∧ w3.heap[t]? = some (.cells #[.map (some b)] 38 (0, 0)) ∧ (w3.cell? ⟨c1, 0, none⟩ = some (.pointer (some ⟨t, 0, none⟩)) ∧ w3.cell? ⟨c2, 0, none⟩ = some (.string u) ∧ w3.cell? ⟨c3, 0, none⟩ = some (.int .i64 v)) ∧ W.heap.size ≤ w3.heap.size)) ∧ w3.rangeLeft b r < wr.rangeLeft b r) := Lib.hid ⟨⟨fun z => left z && !z.sameKey l2, cnt2, ss, Lib.hid ⟨YC.out.1, LN, CO, YC.out.2.1, YC.out.2.2.1, YC.out.2.2.2.1, YC.out.2.2.2.2⟩⟩, ME⟩
        clear LN CO ME
        gi_wp2_with fail
        refine ⟨trivial, ?_⟩
        gi_wp2
        refine ⟨fun _ h => (by cases h), ?_⟩
        gi_wp2
        exact FIN.out
      | true =>
        have f0 : w3.cell? ⟨w2.heap.size, 0, none⟩ = some (.string p2) := by rw [cell_of_row _ _ _ _ _ _ P3.out.1]; rfl
        have f1 : w3.cell? ⟨w2.heap.size, 1, none⟩ = some (.string q2) := by rw [cell_of_row _ _ _ _ _ _ P3.out.1]; rfl
        have f2 : w3.cell? ⟨w2.heap.size + 1, 0, none⟩ = some (.string s2) := by rw [cell_of_row _ _ _ _ _ _ P3.out.2]; rfl
        have f3 : w3.cell? ⟨w2.heap.size + 1, 1, none⟩ = some (.int .i64 v2) := by rw [cell_of_row _ _ _ _ _ _ P3.out.2]; rfl
        have WI := Lib.hid (with_any p2 q2 s2 v2 w3)
        unfold pv rv Bd.val at WI
        simp only at WI
        gi_wp2_with fail
        refine ⟨trivial, fun _ => by omega, (callsIn_wide.2 WI.out).mono ?_⟩
        rintro e w4 ⟨rfl, hb4⟩
        have B4 := Lib.hid (B3.out.trans (hb4.mono B3.out.size))
        obtain ⟨y1, y2, y3, y4, y5⟩ := carry.out w4 B4.out
        obtain ⟨fn, tmps, assign, body, hy, hR⟩ := YY.out ss ⟨p2, q2, s2, v2⟩ w4 y2 (by have := S.out.2.1; have := S2.out.2.1; omega)
        unfold Bd.val at hy
        simp only at hy
        have YC := Lib.hid (And.intro y1 (And.intro y2 (And.intro y3 (And.intro y4 y5))))
        have HR := Lib.hid hR
        clear y1 y2 y3 y4 y5 hb4 WI f0 f1 f2 f3 hR
        gi_wp2_with fail
        refine ⟨fun _ => by omega, HR.out.mono ?_⟩
        rintro e W5 (⟨rfl, hJ5, hk5⟩ | ⟨rfl, hJx5⟩)
        · have Y5 : Hid (W5.ranges Tryz.prog 52 rR b r nn D (fun z => left z && !z.sameKey l2) cnt2 ∧ J (ss ++ [⟨p2, q2, s2, v2⟩]) W5 ∧ W5.heap[t]? = some (.cells #[.map (some b)] 38 (0, 0)) ∧ (W5.cell? ⟨c1, 0, none⟩ = some (.pointer (some ⟨t, 0, none⟩)) ∧ W5.cell? ⟨c2, 0, none⟩ = some (.string u) ∧ W5.cell? ⟨c3, 0, none⟩ = some (.int .i64 v)) ∧ W.heap.size ≤ W5.heap.size) := Lib.hid (by
            obtain ⟨x1, _, x3, x4, x5⟩ := YC.out
            exact ⟨x1.of_walks hk5.1, hJ5, (hk5.2 t (Or.inl rfl)).trans x3, ⟨(World.cell?_of_block (hk5.2 c1 (Or.inr (Or.inl rfl)))).trans x4.1, (World.cell?_of_block (hk5.2 c2 (Or.inr (Or.inr (Or.inl rfl))))).trans x4.2.1, (World.cell?_of_block (hk5.2 c3 (Or.inr (Or.inr (Or.inr rfl))))).trans x4.2.2⟩, Nat.le_trans x5 hk5.1.size⟩)
          clear hJ5 hk5
          have LN : (ss ++ [(⟨p2, q2, s2, v2⟩ : Bd)]).length + cnt2 ≤ Maps.size D := by have := S.out.2.1; have := S2.out.2.1; simp; omega
          have CO : Coll D u v (fun z => left z && !z.sameKey l2) (ss ++ [(⟨p2, q2, s2, v2⟩ : Bd)]) := by rw [IN.out.2]; exact Coll.step (x := ⟨p2, q2, s2, v2⟩) S.out.2.2.1 IN.out.1 hi
          have ME : W5.rangeLeft b r < wr.rangeLeft b r := by rw [Y5.out.1.left_eq, S.out.1.left_eq]; exact S2.out.2.1
          have FIN : Hid ((∃ (left : Lit → Bool) (cnt : Nat) (ss : List Bd), Hid (W5.ranges Tryz.prog 52 rR b r nn D left cnt ∧ ss.length + cnt ≤ Maps.size D ∧ Coll D u v left ss ∧ J ss W5 ∧ W5.heap[t]? = some (.cells #[.map (some b)] 38 (0, 0)) ∧ (W5.cell? ⟨c1, 0, none⟩ = some (.pointer (some ⟨t, 0, none⟩)) ∧ W5.cell? ⟨c2, 0, none⟩ = some (.string u) ∧ W5.cell? ⟨c3, 0, none⟩ = some (.int .i64 v)) ∧ W.heap.size ≤ W5.heap.size)) ∧ W5.rangeLeft b r < wr.rangeLeft b r) := Lib.hid ⟨⟨fun z => left z && !z.sameKey l2, cnt2, ss ++ [⟨p2, q2, s2, v2⟩], Lib.hid ⟨Y5.out.1, LN, CO, Y5.out.2.1, Y5.out.2.2.1, Y5.out.2.2.2.1, Y5.out.2.2.2.2⟩⟩, ME⟩
          clear LN CO ME
          gi_wp2
          exact FIN.out
        · have JX := Lib.hid hJx5
          clear hJx5
          gi_wp2
          first | go_end0 | refine bodyPost_ret (results_none rfl _ _ _) rfl ?_
          exact ⟨⟨_, rfl⟩, .inr ⟨_, trivial, JX.out⟩⟩
end Ac
end Go.Proofs.YthdofbjijpghfaaGreatDoor
end S1

section S2
namespace Go.Proofs.YthdofbjijpghfaaGreatDoor
open Go.RowKit
namespace Ac
/-- The line of a text: of what is no path none. -/
def lineP (p : ByteArray) : List ByteArray := match L.splitO p with
  | some ts => L.lineOf ts
  | none => []
theorem splitE_no {p : ByteArray} (h : L.splitO p = none) : L.splitE p = 41 := by unfold L.splitE; rw [h]; rfl
theorem line_no (p : ByteArray) (w : World) (hm : L.HasM w) (hn : L.splitO p = none) : Calls Tryz.prog 36 #[.string p] w fun e w' => e = .returned (.tuple #[.slice none 0 0, .int .i64 41]) ∧ Below w.heap.size w w' := by
  have PA := Lib.hid (L.path_any p w hm)
  rw [splitE_no hn] at PA
  clear hm
  go_enter Tryz.func36, Tryz.ntmps36
  go_wp2_with fail
  refine PA.out.mono ?_
  rintro e w1 ⟨rfl, hb⟩
  have B1 := Lib.hid hb
  clear hb PA
  go_wp2_with fail
  go_ret2
  exact ⟨rfl, B1.out⟩
theorem line_all (p : ByteArray) (w : World) (hm : L.HasM w) : Calls Tryz.prog 36 #[.string p] w fun e w' => ∃ a n c, e = .returned (.tuple #[.slice a n c, .int .i64 (L.splitE p)]) ∧ L.Strs w' (.slice a n c) (lineP p) ∧ Below w.heap.size w w' := by
  cases h : L.splitO p with
  | none =>
    refine (line_no p w hm h).mono ?_
    rintro e w' ⟨rfl, hb⟩
    refine ⟨none, 0, 0, by rw [splitE_no h], ?_, hb⟩
    unfold lineP
    rw [h]
    exact ⟨none, 0, rfl, by simp, by decide, fun _ => rfl, fun k hk => by simp at hk⟩
  | some ts =>
    obtain ⟨rfl, hg⟩ := L.splitO_some h
    refine (L.line_any ts hg w hm).mono ?_
    rintro e w' ⟨v, rfl, ho, hb⟩
    have hs := ho.strs
    obtain ⟨a, c, e, _, _⟩ := hs.len
    subst e
    refine ⟨a, _, c, by unfold L.splitE; rw [h]; rfl, ?_, hb⟩
    unfold lineP
    rw [h]
    exact hs
theorem contains_any (a : Option Addr) (n c : Nat) (ln : List ByteArray) (x : ByteArray) (w : World) (H : L.Strs w (.slice a n c) ln) :
    Calls Tryz.prog 38 #[.slice a n c, .string x] w fun e w' => e = .returned (.bool (Lib.containsS ln x)) ∧ w' = w := by
  obtain ⟨a', c', e, h1, h2, _, hc⟩ := H
  simp only [Value.slice.injEq] at e
  obtain ⟨rfl, rfl, rfl⟩ := e
  by_cases hn : ln.length = 0
  · have e0 : ln = [] := List.length_eq_zero_iff.1 hn
    subst e0
    exact Tryz.slices_Contains_string_empty a c x w
  · obtain ⟨b, off, rfl, _⟩ := hc 0 (by omega)
    have q := Tryz.slices_Contains_string b off ln.length c ln x w (Nat.le_refl _) (by unfold maxLen at h2; omega) (fun j hj => by
      obtain ⟨b', off', e, hcell⟩ := hc j hj
      simp only [Option.some.injEq, Addr.mk.injEq, and_true] at e
      rw [e.1, e.2]
      exact hcell)
    rw [List.take_of_length_le (Nat.le_refl _)] at q
    exact q
/-- A round of Why. -/
def stp (ln : List ByteArray) (a : Bool × Bd) (x : Bd) : Bool × Bd := if (Lib.containsS ln x.p && (!a.1 || nearB x a.2)) = true then (true, x) else a
def fol (ln : List ByteArray) (xs : List Bd) : Bool × Bd := xs.foldl (stp ln) (false, Bd.z)
theorem fol_snoc (ln : List ByteArray) (xs : List Bd) (x : Bd) : fol ln (xs ++ [x]) = stp ln (fol ln xs) x := by simp [fol, List.foldl_append]
theorem fold_yes (ln : List ByteArray) : ∀ (xs : List Bd) (a : Bool × Bd), (xs.foldl (stp ln) a).1 = true ↔ (a.1 = true ∨ ∃ x ∈ xs, Lib.containsS ln x.p = true)
  | [], a => by simp
  | x :: xs, a => by
    rw [List.foldl_cons, fold_yes ln xs]
    unfold stp
    cases hc : Lib.containsS ln x.p with
    | false => simp [hc]
    | true =>
      cases ha : a.1 with
      | true =>
        simp only [Bool.not_true, Bool.false_or, Bool.true_and, true_or, iff_true]
        split
        · exact Or.inl rfl
        · exact Or.inl ha
      | false => simp [hc]
theorem fol_yes (ln : List ByteArray) (xs : List Bd) : (fol ln xs).1 = true ↔ ∃ x ∈ xs, Lib.containsS ln x.p = true := by
  unfold fol
  rw [fold_yes]
  simp
theorem strs_cells {w w' : World} {v : Value} {ln : List ByteArray} (H : L.Strs w v ln) (h : ∀ (b o : Nat) (y : Value), w.cell? ⟨b, o, none⟩ = some y → w'.cell? ⟨b, o, none⟩ = some y) : L.Strs w' v ln := by
  obtain ⟨a, c, e, h1, h2, h3, hc⟩ := H
  exact ⟨a, c, e, h1, h2, h3, fun k hk => by
    obtain ⟨b, off, e1, e2⟩ := hc k hk
    exact ⟨b, off, e1, h _ _ _ e2⟩⟩
end Ac
end Go.Proofs.YthdofbjijpghfaaGreatDoor
end S2

section S3
namespace Go.Proofs.YthdofbjijpghfaaGreatDoor
open Go.RowKit Go.Shelf
attribute [local go_sem] Oper.semAt_some
namespace Ac
theorem gW_size (w : World) (t : Nat) (u : ByteArray) (v : Int) : (gW w t u v).heap.size = w.heap.size + 3 := by simp [gW]
theorem gW_below (w : World) (t : Nat) (u : ByteArray) (v : Int) : Below w.heap.size w (gW w t u v) := by
  unfold gW
  exact (((Below.refl _ w).alloc (Nat.le_refl _) _).alloc (by simp) _).alloc (by simp; omega) _
theorem gW_cells (w : World) (t : Nat) (u : ByteArray) (v : Int) : (gW w t u v).cell? ⟨w.heap.size, 0, none⟩ = some (.pointer (some ⟨t, 0, none⟩)) ∧ (gW w t u v).cell? ⟨w.heap.size + 1, 0, none⟩ = some (.string u) ∧ (gW w t u v).cell? ⟨w.heap.size + 1 + 1, 0, none⟩ = some (.int .i64 v) := by
  unfold gW
  refine ⟨cellA (cellA (by rw [World.cell?_alloc_new]; rfl) _) _, cellA ?_ _, ?_⟩
  · have := World.cell?_alloc_new (w.alloc (.cells #[.pointer (some ⟨t, 0, none⟩)] 23)) #[.string u] 9 0
    rw [World.size_alloc] at this
    exact this
  · have := World.cell?_alloc_new ((w.alloc (.cells #[.pointer (some ⟨t, 0, none⟩)] 23)).alloc (.cells #[.string u] 9)) #[.int .i64 v] 3 0
    rw [World.size_alloc, World.size_alloc] at this
    exact this
/-- Why's own memory between two rounds. -/
structure Wy (w : World) (g8 g10 g12 g13 : Nat) (a : Option Addr) (n c : Nat) (ln : List ByteArray) (f : Bool) (z : Bd) (gz : Nat) (W : World) : Prop where
  r8 : W.heap[g8]? = some (.cells #[.string ⟨#[]⟩, .string ⟨#[]⟩, .string ⟨#[]⟩, .int .i64 0] 28 (0, 0))
  l : W.heap[g10]? = some (.cells #[.slice a n c] 49 (0, 0))
  s : L.Strs W (.slice a n c) ln
  z : W.heap[g12]? = some (.cells #[.string z.p, .string z.n, .string z.s, .int .i64 z.v] 28 (0, 0))
  f : W.heap[g13]? = some (.cells #[.bool f] 4 (0, 0))
  b : Below w.heap.size w W
  le : w.heap.size ≤ g8 ∧ w.heap.size ≤ g10 ∧ w.heap.size ≤ g12 ∧ w.heap.size ≤ g13
  gs : gz ≤ W.heap.size
  sb : ∀ bb oo, a = some ⟨bb, oo, none⟩ → ln ≠ [] → bb < g10
theorem cells_same {W W' : World} {row : Option Nat} {B y : Nat} {cs : Array Value} {ty : TypeId} (hg : W.grownBy W' row) (hr : ∀ r, row = some r → B ≤ r ∧ ∃ o : Obj, W.heap[r]? = some o ∧ o.isCells = false) (h : W.heap[y]? = some (.cells cs ty (0, 0))) : W'.heap[y]? = some (.cells cs ty (0, 0)) :=
  (hg.block y (lt_of_some h) (fun e => by
    obtain ⟨_, o, ho, hc⟩ := hr y e.symm
    rw [h] at ho
    simp only [Option.some.injEq] at ho
    rw [← ho] at hc
    simp [Obj.isCells] at hc)).trans h
variable {w W W' : World} {g8 g10 g12 g13 n c gz : Nat} {a : Option Addr} {ln : List ByteArray} {f f' : Bool} {z z' : Bd}
theorem Wy.grown (h : Wy w g8 g10 g12 g13 a n c ln f z gz W) {row : Option Nat} {B : Nat} (hB : w.heap.size ≤ B) (hg : W.grownBy W' row) (hr : ∀ r, row = some r → B ≤ r ∧ ∃ o : Obj, W.heap[r]? = some o ∧ o.isCells = false) : Wy w g8 g10 g12 g13 a n c ln f z gz W' :=
  ⟨cells_same hg hr h.r8, cells_same hg hr h.l, strs_cells h.s (fun _ _ _ hc => cell_kept hc hg (fun r e => (hr r e).2)), cells_same hg hr h.z, cells_same hg hr h.f, h.b.trans ((Below.refl _ W).grown hg h.b.size (fun k e => Nat.le_trans hB (hr k e).1)), h.le, Nat.le_trans h.gs hg.size, h.sb⟩
theorem Wy.below (h : Wy w g8 g10 g12 g13 a n c ln f z gz W) (hb : Below W.heap.size W W') : Wy w g8 g10 g12 g13 a n c ln f z gz W' :=
  h.grown (B := w.heap.size) (Nat.le_refl _) (grown_of_below hb) (fun r e => by cases e)
/-- The two boxes turned. -/
theorem Wy.turn {m : Nat} (h : Wy w g8 m (m + 1) (m + 1 + 1) a n c ln f z gz W) (hk : Kept (fun y => y = m + 1 ∨ y = m + 1 + 1) W W') (h8 : g8 < m)
    (hz : W'.heap[m + 1]? = some (.cells #[.string z'.p, .string z'.n, .string z'.s, .int .i64 z'.v] 28 (0, 0))) (hf : W'.heap[m + 1 + 1]? = some (.cells #[.bool f'] 4 (0, 0))) : Wy w g8 m (m + 1) (m + 1 + 1) a n c ln f' z' gz W' := by
  refine ⟨(hk.block g8 (lt_of_some h.r8) (by omega)).trans h.r8, (hk.block m (lt_of_some h.l) (by omega)).trans h.l, ?_, hz, hf, h.b.trans (hk.below h.b.size (fun x e => by have := h.le; omega)), h.le, Nat.le_trans h.gs hk.size, h.sb⟩
  obtain ⟨a', c', e, h1, h2, h3, hc⟩ := h.s
  refine ⟨a', c', e, h1, h2, h3, fun k hk' => ?_⟩
  obtain ⟨b, off, e1, e2⟩ := hc k hk'
  simp only [Value.slice.injEq] at e
  have hlt := h.sb b off (by rw [e.1, e1]) (by intro q; rw [q] at hk'; simp at hk')
  exact ⟨b, off, e1, (World.cell?_of_block (hk.block b (block_lt_of_cell e2) (by omega))).trans e2⟩
/-- What the law asks of a round that turned just these. -/
theorem turn_keeps {m t c1 c2 c3 B : Nat} (h : Wy w g8 m (m + 1) (m + 1 + 1) a n c ln f z gz W) (hk : Kept (fun y => y = m + 1 ∨ y = m + 1 + 1) W W') (ht : t < m) (hB : m + 1 + 1 < B) (h1 : m + 1 + 1 < c1) (h2 : m + 1 + 1 < c2) (h3 : m + 1 + 1 < c3) (hc : c1 < W.heap.size ∧ c2 < W.heap.size ∧ c3 < W.heap.size) : KeepsFrom B W W' ∧ Kg t c1 c2 c3 W W' := by
  have lm := lt_of_some h.l
  refine ⟨⟨hk.size, fun k o hB' hk' _ => (hk.block k (lt_of_some hk') (by omega)).trans hk'⟩, ⟨hk.size, fun k o hk' ho => (hk.block k (lt_of_some hk') (fun e => ?_)).trans hk'⟩, fun y hy => hk.block y (by omega) (by omega)⟩
  rcases e with e | e
  · rw [e, h.z] at hk'
    simp only [Option.some.injEq] at hk'
    rw [← hk'] at ho
    simp [Obj.isWalk] at ho
  · rw [e, h.f] at hk'
    simp only [Option.some.injEq] at hk'
    rw [← hk'] at ho
    simp [Obj.isWalk] at ho
theorem set4 {W : World} {g : Nat} {a b c d a' b' c' d' : Value} {ty : TypeId} (h : W.heap[g]? = some (.cells #[a, b, c, d] ty (0, 0))) : ((((W.setCell ⟨g, 0, none⟩ a').setCell ⟨g, 1, none⟩ b').setCell ⟨g, 2, none⟩ c').setCell ⟨g, 3, none⟩ d').heap[g]? = some (.cells #[a', b', c', d'] ty (0, 0)) := by
  rw [heap_setCell_same _ _ _ _ _ _ (heap_setCell_same _ _ _ _ _ _ (heap_setCell_same _ _ _ _ _ _ (heap_setCell_same _ _ _ _ _ _ h)))]
  rfl
theorem results_cell1 {fn : Func} {p u : Tmp} {ty : TypeId} (h : fn.results = #[.cell p ty, .tmp u]) (tmps : Array Value) (w : World) (ad : Addr) (x : Value)
    (hp : tmps.getD p undef = .pointer (some ad)) (hl : (loadVar ty ad).run Tryz.prog w = .ok x w) :
    (results fn tmps).run Tryz.prog w = .ok (.tuple #[x, tmps.getD u undef]) w := by
  have hp' : tmps[p]?.getD undef = .pointer (some ad) := by simpa using hp
  simp [results, h, hp', asAddr, hl, Result.andThen]
theorem load_bd {w : World} {g : Nat} {a : Array Value} (h : w.heap[g]? = some (.cells a 28 (0, 0))) (hs : a.size = 4) : (loadVar 28 ⟨g, 0, none⟩).run Tryz.prog w = .ok (.agg a) w :=
  run_loadVar_row w g _ _ _ _ _ h Tryz.underlying28 rfl (by rw [hs]; exact size_bd)
theorem five {m : Nat} (W : World) (a b c d e : Value) : Kept (fun y => y = m + 1 ∨ y = m + 1 + 1) W (((((W.setCell ⟨m + 1, 0, none⟩ a).setCell ⟨m + 1, 1, none⟩ b).setCell ⟨m + 1, 2, none⟩ c).setCell ⟨m + 1, 3, none⟩ d).setCell ⟨m + 1 + 1, 0, none⟩ e) := by
  have k : ∀ (A : World) (g i : Nat) (y : Value), (g = m + 1 ∨ g = m + 1 + 1) → Kept (fun y => y = m + 1 ∨ y = m + 1 + 1) A (A.setCell ⟨g, i, none⟩ y) := fun A g i y h => kept_set (F := fun y => y = m + 1 ∨ y = m + 1 + 1) A ⟨g, i, none⟩ y h
  exact ((((k _ _ _ _ (Or.inl rfl)).trans (k _ _ _ _ (Or.inl rfl)) (fun _ _ e => e)).trans (k _ _ _ _ (Or.inl rfl)) (fun _ _ e => e)).trans (k _ _ _ _ (Or.inl rfl)) (fun _ _ e => e)).trans (k _ _ _ _ (Or.inr rfl)) (fun _ _ e => e)
theorem Wy.five {m : Nat} (h : Wy w g8 m (m + 1) (m + 1 + 1) a n c ln f z gz W) (h8 : g8 < m) (xp xn xs : ByteArray) (xv : Int) : Wy w g8 m (m + 1) (m + 1 + 1) a n c ln true ⟨xp, xn, xs, xv⟩ gz (((((W.setCell ⟨m + 1, 0, none⟩ (.string xp)).setCell ⟨m + 1, 1, none⟩ (.string xn)).setCell ⟨m + 1, 2, none⟩ (.string xs)).setCell ⟨m + 1, 3, none⟩ (.int .i64 xv)).setCell ⟨m + 1 + 1, 0, none⟩ (.bool true)) := by
  have ne : m + 1 ≠ m + 1 + 1 := by omega
  have ne' : m + 1 + 1 ≠ m + 1 := by omega
  refine h.turn (Ac.five W _ _ _ _ _) h8 ?_ ?_
  · rw [Below.heap_setCell _ _ _ _ ne]
    exact set4 h.z
  · rw [heap_setCell_same _ _ _ _ _ _ (show (((((W.setCell ⟨m + 1, 0, none⟩ (.string xp)).setCell ⟨m + 1, 1, none⟩ (.string xn)).setCell ⟨m + 1, 2, none⟩ (.string xs)).setCell ⟨m + 1, 3, none⟩ (.int .i64 xv))).heap[m + 1 + 1]? = some (.cells #[.bool f] 4 (0, 0)) by rw [Below.heap_setCell _ _ _ _ ne', Below.heap_setCell _ _ _ _ ne', Below.heap_setCell _ _ _ _ ne', Below.heap_setCell _ _ _ _ ne']; exact h.f)]
    rfl
set_option maxHeartbeats 8000000 in
set_option maxRecDepth 100000 in
theorem why_any (u : ByteArray) (v : Int) (path : ByteArray) (w : World) (t b nn : Nat) (D : DataW Unit) (H : Ta w t b nn D) :
    Calls Tryz.prog 16 #[.pointer (some ⟨t, 0, none⟩), .string u, .int .i64 v, .string path] w fun e w' => ∃ xs, (∀ x, x ∈ xs ↔ InD D x ∧ isB x.s x.v u v = true) ∧ e = .returned (.tuple #[(fol (lineP path) xs).2.val, .bool (fol (lineP path) xs).1]) ∧ Below w.heap.size w w' := by
  refine (callsIn_wide (n := 8)).1 ?_
  refine callsIn_of_wp_marks Tryz.func16 rfl trivial ?_ rfl
  simp only [Tryz.ntmps16, List.size_toArray, List.length_cons, List.length_nil, Nat.reduceAdd, Nat.reduceSub, Array.replicate_succ, Array.replicate_zero, List.push_toArray, List.append_toArray, List.nil_append, List.cons_append]
  obtain ⟨X, hX⟩ : ∃ X, X = w.alloc (.cells #[.string ⟨#[]⟩, .string ⟨#[]⟩, .string ⟨#[]⟩, .int .i64 0] 28) := ⟨_, rfl⟩
  obtain ⟨g8, hg8⟩ : ∃ g, g = w.heap.size := ⟨_, rfl⟩
  have AX : Hid (Below w.heap.size w X ∧ X.heap[g8]? = some (.cells #[.string ⟨#[]⟩, .string ⟨#[]⟩, .string ⟨#[]⟩, .int .i64 0] 28 (0, 0))) := Lib.hid ⟨by rw [hX]; exact (Below.refl _ _).alloc (Nat.le_refl _) _, by rw [hX, hg8, heap_alloc_new]⟩
  have LA := Lib.hid (line_all path X (H.hm.below AX.out.1))
  have HH := Lib.hid H
  have G8 := Lib.hid hg8
  have hX' := hX.symm
  have hg8' := hg8.symm
  clear hX H hg8
  gi_wp2_with fail
  rename_i aa
  refine ⟨trivial, (callsIn_wide.2 LA.out).mono ?_⟩
  rintro e w1 ⟨a, n, c, rfl, hs, hb⟩
  have S1 := Lib.hid (And.intro hs hb)
  clear hs hb hX' hg8'
  gi_wp2_with fail
  obtain ⟨Y3, hY3⟩ : ∃ Y, Y = ((w1.alloc (.cells #[.slice a n c] 49)).alloc (.cells #[.string ⟨#[]⟩, .string ⟨#[]⟩, .string ⟨#[]⟩, .int .i64 0] 28)).alloc (.cells #[.bool false] 4) := ⟨_, rfl⟩
  obtain ⟨m, hm⟩ : ∃ m, m = w1.heap.size := ⟨_, rfl⟩
  rw [← hY3, ← hm]
  have BY : Hid (Below w1.heap.size w1 Y3 ∧ Y3.heap.size = m + 3 ∧ Y3.heap[m]? = some (.cells #[.slice a n c] 49 (0, 0)) ∧ Y3.heap[m + 1]? = some (.cells #[.string ⟨#[]⟩, .string ⟨#[]⟩, .string ⟨#[]⟩, .int .i64 0] 28 (0, 0)) ∧ Y3.heap[m + 1 + 1]? = some (.cells #[.bool false] 4 (0, 0))) := Lib.hid (by
    rw [hY3, hm]
    refine ⟨(((Below.refl _ w1).alloc (Nat.le_refl _) _).alloc (by simp) _).alloc (by simp; omega) _, by simp, ?_, ?_, ?_⟩
    · rw [Below.heap_alloc _ _ _ (by simp; omega), Below.heap_alloc _ _ _ (by simp), heap_alloc_new]
    · rw [Below.heap_alloc _ _ _ (by simp)]
      have := heap_alloc_new (w1.alloc (.cells #[.slice a n c] 49)) (.cells #[.string ⟨#[]⟩, .string ⟨#[]⟩, .string ⟨#[]⟩, .int .i64 0] 28)
      rw [World.size_alloc] at this
      exact this
    · have := heap_alloc_new ((w1.alloc (.cells #[.slice a n c] 49)).alloc (.cells #[.string ⟨#[]⟩, .string ⟨#[]⟩, .string ⟨#[]⟩, .int .i64 0] 28)) (.cells #[.bool false] 4)
      rw [World.size_alloc, World.size_alloc] at this
      exact this)
  have MM := Lib.hid hm
  clear hY3 hm
  refine ⟨trivial, (callsIn_wide.2 (giving_any t u v Y3)).mono ?_⟩
  rintro e w2 ⟨rfl, rfl⟩
  unfold gF
  obtain ⟨cy, hcy⟩ : ∃ cy, cy = Y3.heap.size := ⟨_, rfl⟩
  obtain ⟨G, hG⟩ : ∃ G, G = gW Y3 t u v := ⟨_, rfl⟩
  rw [← hG, ← hcy]
  have GG : Hid (Below Y3.heap.size Y3 G ∧ G.heap.size = cy + 3 ∧ cy = Y3.heap.size ∧ (G.cell? ⟨cy, 0, none⟩ = some (.pointer (some ⟨t, 0, none⟩)) ∧ G.cell? ⟨cy + 1, 0, none⟩ = some (.string u) ∧ G.cell? ⟨cy + 1 + 1, 0, none⟩ = some (.int .i64 v))) := Lib.hid (by
    rw [hG, hcy]
    exact ⟨gW_below _ _ _ _, gW_size _ _ _ _, rfl, gW_cells _ _ _ _⟩)
  clear hG hcy
  have BG : Hid (Below w.heap.size w G ∧ Tb G t b nn D ∧ w.heap.size ≤ m ∧ g8 < m ∧ t < w.heap.size ∧ b < w.heap.size ∧ m + 3 = cy) := Lib.hid (by
    have b1 : Below w.heap.size w w1 := AX.out.1.trans (S1.out.2.mono AX.out.1.size)
    have b2 : Below w.heap.size w Y3 := b1.trans (BY.out.1.mono b1.size)
    have b3 : Below w.heap.size w G := b2.trans (GG.out.1.mono b2.size)
    have s1 := S1.out.2.size
    have s0 := lt_of_some AX.out.2
    exact ⟨b3, HH.out.tb.below b3, by rw [MM.out]; exact b1.size, by rw [MM.out]; omega, lt_of_some HH.out.tb.t, HH.out.tb.m.lt, by rw [GG.out.2.2.1, BY.out.2.1]⟩)
  have I0 : Hid (Wy w g8 m (m + 1) (m + 1 + 1) a n c (lineP path) (fol (lineP path) []).1 (fol (lineP path) []).2 G.heap.size G) := Lib.hid (by
    have b1 := BY.out.1
    have b2 : Below w1.heap.size w1 G := b1.trans (GG.out.1.mono b1.size)
    have bx : Below X.heap.size X G := S1.out.2.trans (b2.mono S1.out.2.size)
    have q := BG.out
    refine ⟨(bx.block g8 (lt_of_some AX.out.2)).trans AX.out.2, (GG.out.1.block _ (lt_of_some BY.out.2.2.1)).trans BY.out.2.2.1, S1.out.1.below b2, (GG.out.1.block _ (lt_of_some BY.out.2.2.2.1)).trans BY.out.2.2.2.1, (GG.out.1.block _ (lt_of_some BY.out.2.2.2.2)).trans BY.out.2.2.2.2, q.1, by have := G8.out; omega, Nat.le_refl _, fun bb oo e hne => ?_⟩
    obtain ⟨a', c', e', _, _, _, hc⟩ := S1.out.1
    simp only [Value.slice.injEq] at e'
    obtain ⟨b0, o0, e0, h0⟩ := hc 0 (List.length_pos_iff.2 hne)
    rw [← e'.1, e] at e0
    simp only [Option.some.injEq, Addr.mk.injEq, and_true] at e0
    rw [MM.out, e0.1]
    exact block_lt_of_cell h0)
  gi_wp2_with fail
  refine wpIn_rangeFunc_ownH (α := Bd) rfl (by decide) (gf := 56) (lb := #[.pointer (some ⟨cy, 0, none⟩), .pointer (some ⟨cy + 1, 0, none⟩), .pointer (some ⟨cy + 1 + 1, 0, none⟩)]) rfl trivial (enters_of Tryz.func56 (by kernel_rfl) rfl)
    (giv1 7 (by decide) t b nn cy (cy + 1) (cy + 1 + 1) D u v G BG.out.2.1 GG.out.2.2.2.1 GG.out.2.2.2.2.1 GG.out.2.2.2.2.2) (fun h k => ⟨h.1.trans k.1, fun y hy => (k.2 y hy).trans (h.2 y hy)⟩) ?hKb (Below.refl _ _) (fun _ => rfl)
    (fun pre W => Wy w g8 m (m + 1) (m + 1 + 1) a n c (lineP path) (fol (lineP path) pre).1 (fol (lineP path) pre).2 G.heap.size W) (fun _ _ _ => False) ?hI (fun _ _ _ _ _ hs _ _ => hs) I0.out
    (fun x a' W => ∃ Bx, G.heap.size ≤ Bx ∧ W.heap[Bx]? = some (.cells #[.string x.p, .string x.n, .string x.s, .int .i64 x.v] 28 (0, 0)) ∧ a' = { tmps := #[.pointer (some ⟨t, 0, none⟩), .string u, .int .i64 v, .string path, undef, undef, undef, undef, .pointer (some ⟨g8, 0, none⟩), .bool false, .pointer (some ⟨m, 0, none⟩), .int .i64 (L.splitE path), .pointer (some ⟨m + 1, 0, none⟩), .pointer (some ⟨m + 1 + 1, 0, none⟩), .pointer (some ⟨Bx, 0, none⟩), .tuple #[.slice a n c, .int .i64 (L.splitE path)], .string path, .tuple #[.slice a n c, .int .i64 (L.splitE path)], .slice a n c, .int .i64 (L.splitE path), .pointer (some ⟨t, 0, none⟩), .string u, .int .i64 v, .func (.func 56) #[] #[.pointer (some ⟨cy, 0, none⟩), .pointer (some ⟨cy + 1, 0, none⟩), .pointer (some ⟨cy + 1 + 1, 0, none⟩)], x.val, undef, undef, undef, undef, undef, undef, undef, undef, undef, undef, undef, undef, undef, undef, undef, undef], defers := [] }) ?hAx ?assign ?body ?done ?stop
  case hKb =>
    intro W l o o' hl ho hc hw
    have q := BG.out
    have q2 := GG.out.2.1
    refine ⟨⟨by simp [World.putObj], fun k ob hk hwk => ?_⟩, fun y hy => World.putObj_heap_other (by omega)⟩
    by_cases e : k = l
    · rw [e, ho] at hk
      simp only [Option.some.injEq] at hk
      rw [hk, hwk] at hw
      simp at hw
    · exact (World.putObj_heap_other e).trans hk
  case hI =>
    intro pre W W' row hs hg hr
    exact hs.grown (by have := BG.out.1.size; exact this) hg hr
  case hAx =>
    rintro x a' _ W W' row ⟨Bx, h1, h2, h3⟩ hg hr
    exact ⟨Bx, h1, cells_same hg hr h2, h3⟩
  case assign =>
    rintro l pre ⟨xp, xn, xs, xv⟩ W K hi hK
    unfold Bd.val
    have HK := Lib.hid hK
    have HI := Lib.hid hi
    clear hK hi
    gi_wp2
    have bl : Below W.heap.size W (W.alloc (.cells #[.string xp, .string xn, .string xs, .int .i64 xv] 28)) := (Below.refl _ W).alloc (Nat.le_refl _) _
    have q := BG.out
    have q2 := GG.out.2.1
    have q3 := HI.out.gs
    refine HK.out _ _ ((KeepsOthers.alloc _ _).from _) ⟨KeepsWalks.alloc _ _, fun y hy => bl.block y ?_⟩ (HI.out.below bl) ⟨W.heap.size, q3, by rw [heap_alloc_new], rfl⟩
    have := q.1.size
    omega
  case body =>
    rintro l pre ⟨xp, xn, xs, xv⟩ a' W hl ⟨r, hr⟩ hi ⟨Bx, hBx, bX, rfl⟩ hlt
    have HI := Lib.hid hi
    have HX : Hid (W.heap[Bx]? = some (.cells #[.string xp, .string xn, .string xs, .int .i64 xv] 28 (0, 0))) := Lib.hid bX
    have CT := Lib.hid (contains_any a n c (lineP path) xp W hi.s)
    obtain ⟨fo, hfo⟩ : ∃ fo, fo = (fol (lineP path) pre).1 := ⟨_, rfl⟩
    obtain ⟨⟨zp, zn, zs, zv⟩, hzo⟩ : ∃ zo, zo = (fol (lineP path) pre).2 := ⟨_, rfl⟩
    rw [← hfo, ← hzo] at HI
    have FS : Hid (fol (lineP path) (pre ++ [⟨xp, xn, xs, xv⟩]) = stp (lineP path) (fo, ⟨zp, zn, zs, zv⟩) ⟨xp, xn, xs, xv⟩) := Lib.hid (by rw [fol_snoc, hfo, hzo])
    have NE := Lib.hid (nearer_any ⟨xp, xn, xs, xv⟩ ⟨zp, zn, zs, zv⟩ W)
    clear hi bX hl hr hfo hzo hlt
    have k10 : W.cell? ⟨m, 0, none⟩ = some (.slice a n c) := by rw [cell_of_row _ _ _ _ _ _ HI.out.l]; rfl
    have x0 : W.cell? ⟨Bx, 0, none⟩ = some (.string xp) := by rw [cell_of_row _ _ _ _ _ _ HX.out]; rfl
    have x1 : W.cell? ⟨Bx, 1, none⟩ = some (.string xn) := by rw [cell_of_row _ _ _ _ _ _ HX.out]; rfl
    have x2 : W.cell? ⟨Bx, 2, none⟩ = some (.string xs) := by rw [cell_of_row _ _ _ _ _ _ HX.out]; rfl
    have x3 : W.cell? ⟨Bx, 3, none⟩ = some (.int .i64 xv) := by rw [cell_of_row _ _ _ _ _ _ HX.out]; rfl
    have z0 : W.cell? ⟨m + 1, 0, none⟩ = some (.string zp) := by rw [cell_of_row _ _ _ _ _ _ HI.out.z]; rfl
    have z1 : W.cell? ⟨m + 1, 1, none⟩ = some (.string zn) := by rw [cell_of_row _ _ _ _ _ _ HI.out.z]; rfl
    have z2 : W.cell? ⟨m + 1, 2, none⟩ = some (.string zs) := by rw [cell_of_row _ _ _ _ _ _ HI.out.z]; rfl
    have z3 : W.cell? ⟨m + 1, 3, none⟩ = some (.int .i64 zv) := by rw [cell_of_row _ _ _ _ _ _ HI.out.z]; rfl
    have y0 : W.cell? ⟨m + 1 + 1, 0, none⟩ = some (.bool fo) := by rw [cell_of_row _ _ _ _ _ _ HI.out.f]; rfl
    unfold Bd.val
    have GE : Hid (∀ Wz f9 z9, Wy w g8 m (m + 1) (m + 1 + 1) a n c (lineP path) f9 z9 G.heap.size Wz → ∀ W9, Kept (fun y => y = m + 1 ∨ y = m + 1 + 1) Wz W9 → KeepsFrom G.heap.size Wz W9 ∧ Kg t cy (cy + 1) (cy + 1 + 1) Wz W9) := Lib.hid (fun Wz f9 z9 h W9 hk => by
      have q := BG.out
      have q2 := GG.out.2.1
      have q3 := h.gs
      exact turn_keeps h hk (by omega) (by omega) (by omega) (by omega) (by omega) (by omega))
    gi_wp2_with fail
    refine ⟨trivial, (CallsIn.inRound l (callsIn_wide.2 CT.out)).mono ?_⟩
    rintro e W1 ⟨rfl, hw1⟩
    subst hw1
    cases hcn : Lib.containsS (lineP path) xp with
    | false =>
      have FE : Hid (fol (lineP path) (pre ++ [⟨xp, xn, xs, xv⟩]) = (fo, ⟨zp, zn, zs, zv⟩)) := Lib.hid (by rw [FS.out]; unfold stp; simp [hcn])
      have END : Hid (KeepsFrom G.heap.size W1 W1 ∧ Kg t cy (cy + 1) (cy + 1 + 1) W1 W1 ∧ Wy w g8 m (m + 1) (m + 1 + 1) a n c (lineP path) (fol (lineP path) (pre ++ [⟨xp, xn, xs, xv⟩])).1 (fol (lineP path) (pre ++ [⟨xp, xn, xs, xv⟩])).2 G.heap.size W1) := Lib.hid (by
        obtain ⟨e1, e2⟩ := GE.out W1 _ _ HI.out W1 (Kept.refl _ _)
        rw [FE.out]
        exact ⟨e1, e2, HI.out⟩)
      gi_wp2
      any_goals (exfalso; rename_i h1 h2; exact absurd h1 (by simp [undef]))
      refine ⟨trivial, ?_⟩
      gi_wp2
      exact END.out
    | true =>
      cases fo with
      | false =>
        have FE : Hid (fol (lineP path) (pre ++ [⟨xp, xn, xs, xv⟩]) = (true, ⟨xp, xn, xs, xv⟩)) := Lib.hid (by rw [FS.out]; unfold stp; simp [hcn])
        have HJ := HI
        have q0 : W1.frozen? ⟨m + 1, 0, none⟩ = false := frozen_of_row _ _ _ _ _ HJ.out.z
        have q1 : W1.frozen? ⟨m + 1, 1, none⟩ = false := frozen_of_row _ _ _ _ _ HJ.out.z
        have q2 : W1.frozen? ⟨m + 1, 2, none⟩ = false := frozen_of_row _ _ _ _ _ HJ.out.z
        have q3 : W1.frozen? ⟨m + 1, 3, none⟩ = false := frozen_of_row _ _ _ _ _ HJ.out.z
        have q4 : W1.frozen? ⟨m + 1 + 1, 0, none⟩ = false := frozen_of_row _ _ _ _ _ HJ.out.f
        have q5 : ((((W1.setCell ⟨m + 1, 0, none⟩ (.string xp)).setCell ⟨m + 1, 1, none⟩ (.string xn)).setCell ⟨m + 1, 2, none⟩ (.string xs)).setCell ⟨m + 1, 3, none⟩ (.int .i64 xv)).cell? ⟨m + 1 + 1, 0, none⟩ = some (.bool false) := by
          rw [World.cell?_of_block (Below.heap_setCell _ _ _ _ (show m + 1 + 1 ≠ m + 1 by omega)), World.cell?_of_block (Below.heap_setCell _ _ _ _ (show m + 1 + 1 ≠ m + 1 by omega)), World.cell?_of_block (Below.heap_setCell _ _ _ _ (show m + 1 + 1 ≠ m + 1 by omega)), World.cell?_of_block (Below.heap_setCell _ _ _ _ (show m + 1 + 1 ≠ m + 1 by omega))]
          rw [cell_of_row _ _ _ _ _ _ HJ.out.f]; rfl
        have END : Hid (KeepsFrom G.heap.size W1 (((((W1.setCell ⟨m + 1, 0, none⟩ (.string xp)).setCell ⟨m + 1, 1, none⟩ (.string xn)).setCell ⟨m + 1, 2, none⟩ (.string xs)).setCell ⟨m + 1, 3, none⟩ (.int .i64 xv)).setCell ⟨m + 1 + 1, 0, none⟩ (.bool true)) ∧ Kg t cy (cy + 1) (cy + 1 + 1) W1 (((((W1.setCell ⟨m + 1, 0, none⟩ (.string xp)).setCell ⟨m + 1, 1, none⟩ (.string xn)).setCell ⟨m + 1, 2, none⟩ (.string xs)).setCell ⟨m + 1, 3, none⟩ (.int .i64 xv)).setCell ⟨m + 1 + 1, 0, none⟩ (.bool true)) ∧ Wy w g8 m (m + 1) (m + 1 + 1) a n c (lineP path) (fol (lineP path) (pre ++ [⟨xp, xn, xs, xv⟩])).1 (fol (lineP path) (pre ++ [⟨xp, xn, xs, xv⟩])).2 G.heap.size (((((W1.setCell ⟨m + 1, 0, none⟩ (.string xp)).setCell ⟨m + 1, 1, none⟩ (.string xn)).setCell ⟨m + 1, 2, none⟩ (.string xs)).setCell ⟨m + 1, 3, none⟩ (.int .i64 xv)).setCell ⟨m + 1 + 1, 0, none⟩ (.bool true))) := Lib.hid (by
          obtain ⟨e1, e2⟩ := GE.out W1 _ _ HI.out _ (five W1 (.string xp) (.string xn) (.string xs) (.int .i64 xv) (.bool true))
          rw [FE.out]
          exact ⟨e1, e2, HI.out.five BG.out.2.2.2.1 xp xn xs xv⟩)
        gi_wp2
        refine ⟨trivial, ?_⟩
        gi_wp2
        exact END.out
      | true =>
        unfold Bd.val at NE
        simp only at NE
        gi_wp2_with fail
        refine ⟨trivial, (CallsIn.inRound l (callsIn_wide.2 NE.out)).mono ?_⟩
        rintro e W2 ⟨rfl, hb2⟩
        have HJ := Lib.hid (HI.out.below hb2)
        have XB : Hid (W2.heap[Bx]? = some (.cells #[.string xp, .string xn, .string xs, .int .i64 xv] 28 (0, 0))) := Lib.hid ((hb2.block Bx (lt_of_some HX.out)).trans HX.out)
        have KB : Hid (Kept (fun y => y = m + 1 ∨ y = m + 1 + 1) W1 W2) := Lib.hid (Below.kept hb2 _)
        clear hb2 k10 x0 x1 x2 x3 z0 z1 z2 z3 y0
        have x0 : W2.cell? ⟨Bx, 0, none⟩ = some (.string xp) := by rw [cell_of_row _ _ _ _ _ _ XB.out]; rfl
        have x1 : W2.cell? ⟨Bx, 1, none⟩ = some (.string xn) := by rw [cell_of_row _ _ _ _ _ _ XB.out]; rfl
        have x2 : W2.cell? ⟨Bx, 2, none⟩ = some (.string xs) := by rw [cell_of_row _ _ _ _ _ _ XB.out]; rfl
        have x3 : W2.cell? ⟨Bx, 3, none⟩ = some (.int .i64 xv) := by rw [cell_of_row _ _ _ _ _ _ XB.out]; rfl
        have z0 : W2.cell? ⟨m + 1, 0, none⟩ = some (.string zp) := by rw [cell_of_row _ _ _ _ _ _ HJ.out.z]; rfl
        have z1 : W2.cell? ⟨m + 1, 1, none⟩ = some (.string zn) := by rw [cell_of_row _ _ _ _ _ _ HJ.out.z]; rfl
        have z2 : W2.cell? ⟨m + 1, 2, none⟩ = some (.string zs) := by rw [cell_of_row _ _ _ _ _ _ HJ.out.z]; rfl
        have z3 : W2.cell? ⟨m + 1, 3, none⟩ = some (.int .i64 zv) := by rw [cell_of_row _ _ _ _ _ _ HJ.out.z]; rfl
        cases hnb : nearB ⟨xp, xn, xs, xv⟩ ⟨zp, zn, zs, zv⟩ with
        | false =>
          have FE : Hid (fol (lineP path) (pre ++ [⟨xp, xn, xs, xv⟩]) = (true, ⟨zp, zn, zs, zv⟩)) := Lib.hid (by rw [FS.out]; unfold stp; simp [hcn, hnb])
          have END : Hid (KeepsFrom G.heap.size W1 W2 ∧ Kg t cy (cy + 1) (cy + 1 + 1) W1 W2 ∧ Wy w g8 m (m + 1) (m + 1 + 1) a n c (lineP path) (fol (lineP path) (pre ++ [⟨xp, xn, xs, xv⟩])).1 (fol (lineP path) (pre ++ [⟨xp, xn, xs, xv⟩])).2 G.heap.size W2) := Lib.hid (by
            obtain ⟨e1, e2⟩ := GE.out W1 _ _ HI.out W2 KB.out
            rw [FE.out]
            exact ⟨e1, e2, HJ.out⟩)
          gi_wp2
          exact END.out
        | true =>
          have FE : Hid (fol (lineP path) (pre ++ [⟨xp, xn, xs, xv⟩]) = (true, ⟨xp, xn, xs, xv⟩)) := Lib.hid (by rw [FS.out]; unfold stp; simp [hcn, hnb])
          have q0 : W2.frozen? ⟨m + 1, 0, none⟩ = false := frozen_of_row _ _ _ _ _ HJ.out.z
          have q1 : W2.frozen? ⟨m + 1, 1, none⟩ = false := frozen_of_row _ _ _ _ _ HJ.out.z
          have q2 : W2.frozen? ⟨m + 1, 2, none⟩ = false := frozen_of_row _ _ _ _ _ HJ.out.z
          have q3 : W2.frozen? ⟨m + 1, 3, none⟩ = false := frozen_of_row _ _ _ _ _ HJ.out.z
          have q4 : W2.frozen? ⟨m + 1 + 1, 0, none⟩ = false := frozen_of_row _ _ _ _ _ HJ.out.f
          have q5 : ((((W2.setCell ⟨m + 1, 0, none⟩ (.string xp)).setCell ⟨m + 1, 1, none⟩ (.string xn)).setCell ⟨m + 1, 2, none⟩ (.string xs)).setCell ⟨m + 1, 3, none⟩ (.int .i64 xv)).cell? ⟨m + 1 + 1, 0, none⟩ = some (.bool true) := by
            rw [World.cell?_of_block (Below.heap_setCell _ _ _ _ (show m + 1 + 1 ≠ m + 1 by omega)), World.cell?_of_block (Below.heap_setCell _ _ _ _ (show m + 1 + 1 ≠ m + 1 by omega)), World.cell?_of_block (Below.heap_setCell _ _ _ _ (show m + 1 + 1 ≠ m + 1 by omega)), World.cell?_of_block (Below.heap_setCell _ _ _ _ (show m + 1 + 1 ≠ m + 1 by omega))]
            rw [cell_of_row _ _ _ _ _ _ HJ.out.f]; rfl
          have END : Hid (KeepsFrom G.heap.size W1 (((((W2.setCell ⟨m + 1, 0, none⟩ (.string xp)).setCell ⟨m + 1, 1, none⟩ (.string xn)).setCell ⟨m + 1, 2, none⟩ (.string xs)).setCell ⟨m + 1, 3, none⟩ (.int .i64 xv)).setCell ⟨m + 1 + 1, 0, none⟩ (.bool true)) ∧ Kg t cy (cy + 1) (cy + 1 + 1) W1 (((((W2.setCell ⟨m + 1, 0, none⟩ (.string xp)).setCell ⟨m + 1, 1, none⟩ (.string xn)).setCell ⟨m + 1, 2, none⟩ (.string xs)).setCell ⟨m + 1, 3, none⟩ (.int .i64 xv)).setCell ⟨m + 1 + 1, 0, none⟩ (.bool true)) ∧ Wy w g8 m (m + 1) (m + 1 + 1) a n c (lineP path) (fol (lineP path) (pre ++ [⟨xp, xn, xs, xv⟩])).1 (fol (lineP path) (pre ++ [⟨xp, xn, xs, xv⟩])).2 G.heap.size (((((W2.setCell ⟨m + 1, 0, none⟩ (.string xp)).setCell ⟨m + 1, 1, none⟩ (.string xn)).setCell ⟨m + 1, 2, none⟩ (.string xs)).setCell ⟨m + 1, 3, none⟩ (.int .i64 xv)).setCell ⟨m + 1 + 1, 0, none⟩ (.bool true))) := Lib.hid (by
            obtain ⟨e1, e2⟩ := GE.out W1 _ _ HI.out _ (KB.out.trans (five W2 (.string xp) (.string xn) (.string xs) (.int .i64 xv) (.bool true)) (fun _ _ e => e))
            rw [FE.out]
            exact ⟨e1, e2, HJ.out.five BG.out.2.2.2.1 xp xn xs xv⟩)
          gi_wp2
          exact END.out
  case done =>
    rintro D' ys W hD hS hi hK
    have HI := Lib.hid hi
    have HS := Lib.hid hS
    have HD : Hid (G.heap.size ≤ D' ∧ W.heap[D']? = some (.deferred (some []))) := Lib.hid ⟨hD, hK⟩
    obtain ⟨fo, hfo⟩ : ∃ fo, fo = (fol (lineP path) ys).1 := ⟨_, rfl⟩
    obtain ⟨⟨zp, zn, zs, zv⟩, hzo⟩ : ∃ zo, zo = (fol (lineP path) ys).2 := ⟨_, rfl⟩
    have FO : Hid (fo = (fol (lineP path) ys).1 ∧ (⟨zp, zn, zs, zv⟩ : Bd) = (fol (lineP path) ys).2) := Lib.hid ⟨hfo, hzo⟩
    rw [← hfo, ← hzo] at HI
    clear hi hS hD hK hfo hzo
    have z0 : W.cell? ⟨m + 1, 0, none⟩ = some (.string zp) := by rw [cell_of_row _ _ _ _ _ _ HI.out.z]; rfl
    have z1 : W.cell? ⟨m + 1, 1, none⟩ = some (.string zn) := by rw [cell_of_row _ _ _ _ _ _ HI.out.z]; rfl
    have z2 : W.cell? ⟨m + 1, 2, none⟩ = some (.string zs) := by rw [cell_of_row _ _ _ _ _ _ HI.out.z]; rfl
    have z3 : W.cell? ⟨m + 1, 3, none⟩ = some (.int .i64 zv) := by rw [cell_of_row _ _ _ _ _ _ HI.out.z]; rfl
    have y0 : W.cell? ⟨m + 1 + 1, 0, none⟩ = some (.bool fo) := by rw [cell_of_row _ _ _ _ _ _ HI.out.f]; rfl
    have r0 : W.cell? ⟨g8, 0, none⟩ = some (.string ⟨#[]⟩) := by rw [cell_of_row _ _ _ _ _ _ HI.out.r8]; rfl
    have r1 : W.cell? ⟨g8, 1, none⟩ = some (.string ⟨#[]⟩) := by rw [cell_of_row _ _ _ _ _ _ HI.out.r8]; rfl
    have r2 : W.cell? ⟨g8, 2, none⟩ = some (.string ⟨#[]⟩) := by rw [cell_of_row _ _ _ _ _ _ HI.out.r8]; rfl
    have r3 : W.cell? ⟨g8, 3, none⟩ = some (.int .i64 0) := by rw [cell_of_row _ _ _ _ _ _ HI.out.r8]; rfl
    have q0 : W.frozen? ⟨g8, 0, none⟩ = false := frozen_of_row _ _ _ _ _ HI.out.r8
    have q1 : W.frozen? ⟨g8, 1, none⟩ = false := frozen_of_row _ _ _ _ _ HI.out.r8
    have q2 : W.frozen? ⟨g8, 2, none⟩ = false := frozen_of_row _ _ _ _ _ HI.out.r8
    have q3 : W.frozen? ⟨g8, 3, none⟩ = false := frozen_of_row _ _ _ _ _ HI.out.r8
    have nm : m + 1 + 1 ≠ g8 := by have := BG.out.2.2.2.1; omega
    have w0 : ((((W.setCell ⟨g8, 0, none⟩ (.string zp)).setCell ⟨g8, 1, none⟩ (.string zn)).setCell ⟨g8, 2, none⟩ (.string zs)).setCell ⟨g8, 3, none⟩ (.int .i64 zv)).drew.cell? ⟨m + 1 + 1, 0, none⟩ = some (.bool fo) := by
      show ((((W.setCell ⟨g8, 0, none⟩ (.string zp)).setCell ⟨g8, 1, none⟩ (.string zn)).setCell ⟨g8, 2, none⟩ (.string zs)).setCell ⟨g8, 3, none⟩ (.int .i64 zv)).cell? ⟨m + 1 + 1, 0, none⟩ = some (.bool fo)
      rw [World.cell?_of_block (Below.heap_setCell _ _ _ _ nm), World.cell?_of_block (Below.heap_setCell _ _ _ _ nm), World.cell?_of_block (Below.heap_setCell _ _ _ _ nm), World.cell?_of_block (Below.heap_setCell _ _ _ _ nm)]
      exact y0
    have y1 : W.drew.cell? ⟨m + 1 + 1, 0, none⟩ = some (.bool fo) := y0
    clear nm
    gi_wp2_with fail
    gi_region
    obtain ⟨V, hV⟩ : ∃ V, V = ((((W.setCell ⟨g8, 0, none⟩ (.string zp)).setCell ⟨g8, 1, none⟩ (.string zn)).setCell ⟨g8, 2, none⟩ (.string zs)).setCell ⟨g8, 3, none⟩ (.int .i64 zv)).drew := ⟨_, rfl⟩
    rw [← hV]
    have HV : Hid (V.heap[D']? = some (.deferred (some [])) ∧ V.heap[g8]? = some (.cells #[.string zp, .string zn, .string zs, .int .i64 zv] 28 (0, 0)) ∧ Below w.heap.size w V) := Lib.hid (by
      have nd : D' ≠ g8 := by have := HD.out.1; have := BG.out; have := GG.out.2.1; omega
      rw [hV]
      refine ⟨?_, set4 HI.out.r8, ?_⟩
      · show ((((W.setCell ⟨g8, 0, none⟩ (.string zp)).setCell ⟨g8, 1, none⟩ (.string zn)).setCell ⟨g8, 2, none⟩ (.string zs)).setCell ⟨g8, 3, none⟩ (.int .i64 zv)).heap[D']? = _
        rw [Below.heap_setCell _ _ _ _ nd, Below.heap_setCell _ _ _ _ nd, Below.heap_setCell _ _ _ _ nd, Below.heap_setCell _ _ _ _ nd]
        exact HD.out.2
      · have h8 := HI.out.le.1
        exact ((((HI.out.b.setCell (p := ⟨g8, 0, none⟩) h8 _).setCell (p := ⟨g8, 1, none⟩) h8 _).setCell (p := ⟨g8, 2, none⟩) h8 _).setCell (p := ⟨g8, 3, none⟩) h8 _).drew)
    clear hV z0 z1 z2 z3 y0 y1 w0 r0 r1 r2 r3 q0 q1 q2 q3
    gi_wp2
    refine ⟨by simp, .inl ⟨_, _, rfl, run_takeDeferred HV.out.1, ?_⟩⟩
    have ND : g8 ≠ D' := by have := HD.out.1; have := BG.out; have := GG.out.2.1; omega
    refine ⟨_, results_cell1 rfl _ _ ⟨g8, 0, none⟩ (.agg #[.string zp, .string zn, .string zs, .int .i64 zv]) rfl (load_bd ((World.putObj_heap_other ND).trans HV.out.2.1) rfl), ys, HS.out, ?_, ?_⟩
    · rw [← FO.out.1, ← FO.out.2]
      rfl
    · exact HV.out.2.2.trans (belowK_b (w := w) (Nat.le_refl _) V D' _ _ (by have := HD.out.1; have := BG.out.1.size; omega) HV.out.1 rfl rfl)
  case stop => rintro D' c' pre W _ _ h _; exact h.elim
end Ac
end Go.Proofs.YthdofbjijpghfaaGreatDoor
end S3

section S4
namespace Go.Proofs.YthdofbjijpghfaaGreatDoor
open Go.RowKit
namespace Ac
def rootT : ByteArray := ⟨#[114, 111, 111, 116]⟩
/-- What May tells. -/
def MayP (D : DataW Unit) (s : ByteArray) (v : Int) (path : ByteArray) : Prop :=
  (s = rootT ∧ vbB v = true ∧ L.splitE path = 0) ∨ (s ≠ rootT ∧ ∃ x, InD D x ∧ isB x.s x.v s v = true ∧ x.p ∈ lineP path)
theorem lineP_good {ts : List ByteArray} (hg : L.Good ts) : lineP (L.pth ts) = L.lineOf ts := by unfold lineP; rw [L.splitO_good hg]
theorem mem_line (ts : List ByteArray) (x : ByteArray) : x ∈ L.lineOf ts ↔ ∃ k, k ≤ ts.length ∧ x = L.pth (ts.take k) := by
  unfold L.lineOf L.lineTo
  simp only [List.mem_map, List.mem_range]
  constructor
  · rintro ⟨j, hj, rfl⟩
    exact ⟨ts.length - j, by omega, rfl⟩
  · rintro ⟨k, hk, rfl⟩
    exact ⟨ts.length - k, by omega, by rw [show ts.length - (ts.length - k) = k by omega]⟩
variable {D : DataW Unit} {s : ByteArray} {v : Int}
/-- What may be done at a path above may be done below it. -/
theorem may_down {ts : List ByteArray} (hg : L.Good ts) {l : ByteArray} (hl : l ∈ L.lineOf ts) (h : MayP D s v l) : MayP D s v (L.pth ts) := by
  obtain ⟨k, hk, rfl⟩ := (mem_line ts l).1 hl
  rcases h with ⟨a, b, _⟩ | ⟨a, x, b, c, d⟩
  · exact Or.inl ⟨a, b, by unfold L.splitE; rw [L.splitO_good hg]; rfl⟩
  · refine Or.inr ⟨a, x, b, c, ?_⟩
    rw [lineP_good (hg.take k), mem_line] at d
    rw [lineP_good hg, mem_line]
    obtain ⟨j, hj, e⟩ := d
    rw [List.length_take] at hj
    refine ⟨j, by omega, ?_⟩
    rw [e, List.take_take, Nat.min_eq_left (by omega)]
/-- With a verb all that it includes. -/
theorem may_less {l : ByteArray} (h : MayP D s v l) (hv : 1 ≤ v) : MayP D s (v - 1) l := by
  have vb : vbB v = true → vbB (v - 1) = true := fun h => by
    unfold vbB at h ⊢
    simp only [Bool.and_eq_true, decide_eq_true_iff] at h ⊢
    omega
  rcases h with ⟨a, b, c⟩ | ⟨a, x, b, c, d⟩
  · exact Or.inl ⟨a, vb b, c⟩
  · refine Or.inr ⟨a, x, b, ?_, d⟩
    unfold isB at c ⊢
    simp only [Bool.and_eq_true, decide_eq_true_iff] at c ⊢
    exact ⟨c.1, vb c.2.1, by omega⟩
theorem may_root {ts : List ByteArray} (hg : L.Good ts) (h0 : 0 ≤ v) (h3 : v ≤ 3) : MayP D rootT v (L.pth ts) :=
  Or.inl ⟨rfl, by unfold vbB; simp [h0, h3], by unfold L.splitE; rw [L.splitO_good hg]; rfl⟩
theorem may_none {p : ByteArray} (h : L.splitO p = none) : ¬ MayP D s v p := by
  rintro (⟨_, _, c⟩ | ⟨_, x, _, _, d⟩)
  · rw [splitE_no h] at c; simp at c
  · unfold lineP at d; rw [h] at d; simp at d
set_option maxHeartbeats 4000000 in
set_option maxRecDepth 100000 in
theorem may_any (s : ByteArray) (v : Int) (path : ByteArray) (w : World) (t b nn : Nat) (D : DataW Unit) (H : Ta w t b nn D) :
    Calls Tryz.prog 18 #[.pointer (some ⟨t, 0, none⟩), .string s, .int .i64 v, .string path] w fun e w' => ∃ r : Bool, e = .returned (.bool r) ∧ (r = true ↔ MayP D s v path) ∧ Below w.heap.size w w' := by
  by_cases hs : s = rootT
  · subst hs
    have ge : (rootT.toList == [114, 111, 111, 116]) = true := by rw [ByteArray.toList_eq]; rfl
    have IV := Lib.hid (isVerb_any v w)
    obtain ⟨pe, hpe⟩ : ∃ pe, pe = L.splitE path := ⟨_, rfl⟩
    have PA := Lib.hid (L.path_any path w H.hm)
    rw [← hpe] at PA
    have EP := Lib.hid hpe
    clear hpe H
    unfold rootT at ge ⊢
    go_enter Tryz.func18, Tryz.ntmps18
    go_wp2_with fail
    refine IV.out.mono ?_
    rintro e w1 ⟨rfl, hw1⟩
    subst hw1
    cases hv : vbB v with
    | false =>
      go_wp2_with fail
      go_ret
      refine ⟨false, rfl, ⟨fun h => by simp at h, fun h => ?_⟩, Below.refl _ _⟩
      rcases h with ⟨_, h, _⟩ | ⟨h, _⟩
      · rw [hv] at h; simp at h
      · exact absurd rfl h
    | true =>
      go_wp2_with fail
      refine PA.out.mono ?_
      rintro e w2 ⟨rfl, hb⟩
      have B2 := Lib.hid hb
      clear hb
      by_cases h0 : pe = 0
      · have g0 : (pe == 0) = true := by rw [beq_iff_eq]; exact h0
        go_wp2_with fail
        go_ret
        exact ⟨true, rfl, ⟨fun _ => Or.inl ⟨rfl, hv, by rw [← EP.out]; exact h0⟩, fun _ => rfl⟩, B2.out⟩
      · have g0 : (pe == 0) = false := by rw [beq_eq_false_iff_ne]; exact h0
        go_wp2_with fail
        go_ret
        refine ⟨false, rfl, ⟨fun h => by simp at h, fun h => ?_⟩, B2.out⟩
        rcases h with ⟨_, _, h⟩ | ⟨h, _⟩
        · rw [EP.out] at h0; exact absurd h h0
        · exact absurd rfl h
  · have ge : (s.toList == [114, 111, 111, 116]) = false := by
      have q := teq_no hs
      rw [show rootT.toList = [114, 111, 111, 116] by rw [ByteArray.toList_eq]; rfl] at q
      exact q
    have WH := Lib.hid (why_any s v path w t b nn D H)
    have HS := Lib.hid hs
    clear hs H
    go_enter Tryz.func18, Tryz.ntmps18
    go_wp2_with fail
    refine WH.out.mono ?_
    rintro e w1 ⟨xs, hxs, rfl, hb⟩
    have B1 := Lib.hid (And.intro hxs hb)
    obtain ⟨fo, hfo⟩ : ∃ fo, fo = (fol (lineP path) xs).1 := ⟨_, rfl⟩
    obtain ⟨⟨zp, zn, zs, zv⟩, hzo⟩ : ∃ zo, zo = (fol (lineP path) xs).2 := ⟨_, rfl⟩
    have FO := Lib.hid hfo
    rw [← hfo, ← hzo]
    unfold Bd.val
    clear hxs hb hfo hzo WH
    go_wp2_with fail
    go_ret
    refine ⟨fo, rfl, ?_, B1.out.2.trans ((Below.refl _ w1).alloc (Nat.le_refl _) _ |>.mono B1.out.2.size)⟩
    rw [FO.out, fol_yes]
    constructor
    · rintro ⟨x, hx, hc⟩
      obtain ⟨h1, h2⟩ := (B1.out.1 x).1 hx
      exact Or.inr ⟨HS.out, x, h1, h2, (Lib.containsS_iff _ _).1 hc⟩
    · rintro (⟨h, _⟩ | ⟨_, x, h1, h2, h3⟩)
      · exact absurd h HS.out
      · exact ⟨x, (B1.out.1 x).2 ⟨h1, h2⟩, (Lib.containsS_iff _ _).2 h3⟩
end Ac
end Go.Proofs.YthdofbjijpghfaaGreatDoor
end S4

section S5
namespace Go.Proofs.YthdofbjijpghfaaGreatDoor
open Go.RowKit
namespace Ac
/-- A step. -/
structure Sp where
  two : Bool
  kind : Int
  verb : Int
  b : Bd
  p : ByteArray
  n : ByteArray
  s : ByteArray
def Sp.cells (o : Sp) : List Value := [.bool o.two, .int .i64 o.kind, .int .i64 o.verb, .string o.b.p, .string o.b.n, .string o.b.s, .int .i64 o.b.v, .string o.p, .string o.n, .string o.s]
structure Sp.Fit (o : Sp) : Prop where
  b : o.b.Fit
  p : o.p.size ≤ 140737488355328
  n : o.n.size ≤ 140737488355328
  k : -9223372036854775808 ≤ o.kind ∧ o.kind ≤ 9223372036854775807
variable {w w' : World} {t b n : Nat} {D : DataW Unit}
theorem Ta.more (h : Ta w t b n D) {n' : Nat} (hn : n ≤ n') : Ta w t b n' D := ⟨h.tb.more hn, h.hm⟩
end Ac
end Go.Proofs.YthdofbjijpghfaaGreatDoor
end S5
