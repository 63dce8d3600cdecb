/-
  LgV, LgW, LgY, LgP, LgZ, LawParses, joined.
-/
import Derived.Test.YtjegjpdeclgegaaDoorLgT
import Derived.Test.YtjegjpdeclgegaaDoorLgG
import Derived.Test.YtjegjpdeclgegaaDoorLgQ
import Derived.Test.YtjegjpdeclgegaaDoorLgU
import Derived.Deep.DeepCutAuto
import Derived.Deep.RegionHeld3
import Derived.Test.YtjegjpdeclgegaaDoorLgH
import Derived.Test.YtjegjpdeclgegaaDoorLgA
import Derived.Test.YtjegjpdeclgegaaDoorParseA
import Derived.Test.YtjegjpdeclgegaaDoorKnownK
section S0
namespace Go.Proofs.YtjegjpdeclgegaaDoor
open Go.RowKit Go.Lib
open Go.Sort (grow)
namespace Lg
set_option maxRecDepth 100000 in
theorem refPrint_neg (v : Int) (hv : v < 0) (w : World) :
    Calls Tryd.prog 7 #[.int .i64 v] w fun e w' => e = .returned (.string ⟨#[]⟩) ∧ Below w.heap.size w w' := by
  have g1 : decide (v < 0) = true := decide_eq_true hv
  go_enter Tryd.func7, Tryd.ntmps7
  go_wp2_with fail
  go_ret
  exact ⟨rfl, Below.refl _ _⟩
set_option maxRecDepth 100000 in
theorem refPrint_zero (w : World) :
    Calls Tryd.prog 7 #[.int .i64 0] w fun e w' => e = .returned (.string ⟨#[48]⟩) ∧ Below w.heap.size w w' := by
  go_enter Tryd.func7, Tryd.ntmps7
  go_wp2_with fail
  go_ret
  exact ⟨rfl, Below.refl _ _⟩
theorem digs_max : nDigits 9223372036854775807 ≤ 20 := by
  rw [nDigits_unique 18 9223372036854775807 (by decide) (by decide)]; decide
set_option maxHeartbeats 4000000 in
set_option maxRecDepth 100000 in
theorem refPrint_milli (v : Nat) (hv : v ≤ 9223372036854775807) (hm : v % 1000 ≠ 0) (w : World) :
    Calls Tryd.prog 7 #[.int .i64 (v : Int)] w fun e w' => e = .returned (.string (dig v ++ ⟨#[109]⟩)) ∧ Below w.heap.size w w' := by
  have LV := Lib.hid (long_n v w hv)
  obtain ⟨r, hr⟩ : ∃ r : Int, r = (v : Int).tmod 1000 := ⟨_, rfl⟩
  have e1 : (v : Int).tmod 1000 = r := hr.symm
  have hr2 : r = ((v % 1000 : Nat) : Int) := by rw [hr, Int.tmod_eq_emod_of_nonneg (by omega)]; omega
  have g0 : decide ((v : Int) < 0) = false := decide_eq_false (by omega)
  have g1 : (r == 0) = false := by rw [beq_eq_false_iff_ne, hr2]; omega
  have g2 : (r != 0) = true := by rw [bne_iff_ne, hr2]; omega
  obtain ⟨D, hD⟩ : ∃ D, D = dig v := ⟨_, rfl⟩
  rw [← hD]
  have DS : D.size + 1 ≤ 9223372036854775807 := by
    have q : nDigits v ≤ 20 := by
      have := nd_mono 9223372036854775807 v hv
      have e : nDigits 9223372036854775807 ≤ 20 := digs_max
      omega
    rw [hD, dig_size, decDigits_length]; omega
  have hs1 : ¬ (D.size + 1 > 9223372036854775807) := by omega
  have HD := Lib.hid hD
  clear hr hr2 hD hv hm
  go_enter Tryd.func7, Tryd.ntmps7
  go_wp2_with fail
  refine LV.out.mono ?_
  rintro e w1 ⟨a1, n1, c1, rfl, h1, h2, h3⟩
  have TX := Lib.hid (text_any a1 n1 c1 v w1 h1 (by omega))
  have B1 := Lib.hid h3
  rw [← HD.out] at TX
  clear h1 h2 h3
  go_wp2_with fail
  refine TX.out.mono ?_
  rintro e w2 ⟨rfl, hb⟩
  have B2 := Lib.hid (B1.out.trans (hb.mono B1.out.size))
  clear hb
  go_wp2_with fail
  go_ret
  exact ⟨rfl, B2.out⟩
end Lg
end Go.Proofs.YtjegjpdeclgegaaDoor
end S0

section S1
namespace Go.Proofs.YtjegjpdeclgegaaDoor
open Go.RowKit Go.Lib
open Go.Sort (grow)
namespace Lg
theorem bal {W V : World} (h : Below W.heap.size W V) (o : Obj) : Below W.heap.size W (V.alloc o) := h.alloc h.size o
theorem ht {W V X : World} (h : Below W.heap.size W V) (h' : Below V.heap.size V X) : Below W.heap.size W X := h.trans (h'.mono h.size)
/-- A box of the body's own. -/
structure Bx (wr X : World) (p : Nat) : Prop where
  box : X.heap[p]? = some (Obj.cells #[.slice none 0 0] 40 (0, 0))
  ge : wr.heap.size ≤ p
theorem Bx.lt {wr X : World} {p : Nat} (h : Bx wr X p) : p < X.heap.size := by
  rcases Nat.lt_or_ge p X.heap.size with q | q
  · exact q
  · have := h.box; rw [Array.getElem?_eq_none q] at this; simp at this
theorem Bx.call {wr W X : World} {p : Nat} (h : Bx wr W p) (hb : Below W.heap.size W X) : Bx wr X p := ⟨(hb.block p h.lt).trans h.box, h.ge⟩
theorem Bx.alloc {wr W : World} {p : Nat} (h : Bx wr W p) : Bx wr (W.alloc (Obj.cells #[.slice none 0 0] 40)) p := h.call (bal (Below.refl _ _) _)
theorem Bx.made {wr W : World} (h : Below wr.heap.size wr W) : Bx wr (W.alloc (Obj.cells #[.slice none 0 0] 40)) W.heap.size := ⟨heap_alloc_new _ _, h.size⟩
theorem Bx.any {wr X : World} {p : Nat} (h : Bx wr X p) (o : Obj) : (X.alloc o).cell? ⟨p, 0, none⟩ = some (.slice none 0 0) ∧ (X.alloc o).frozen? ⟨p, 0, none⟩ = false :=
  have q := ((bal (Below.refl X.heap.size X) o).block p h.lt).trans h.box
  ⟨cell1 q, frz q 0⟩
theorem cellA {X : World} {a : Addr} {u : Value} (h : X.cell? a = some u) (o : Obj) : (X.alloc o).cell? a = some u := ((bal (Below.refl X.heap.size X) o).cell (block_lt_of_cell h)).trans h
theorem setA {X : World} {g k p : Nat} {u : Value} (h : X.cell? ⟨g, k, none⟩ = some u) (hn : g ≠ p) (x : Value) : (X.setCell ⟨p, 0, none⟩ x).cell? ⟨g, k, none⟩ = some u := (World.cell?_of_block (Below.heap_setCell _ _ _ _ hn)).trans h
theorem szA (W : World) (o : Obj) : (W.alloc o).heap.size = W.heap.size + 1 := by simp
theorem Bx.mado {wr W : World} (h : Below wr.heap.size wr W) : Bx wr ((W.alloc (Obj.cells #[.slice none 0 0] 40)).alloc (Obj.cells #[.slice none 0 0] 40)) (W.heap.size + 1) := by
  have q := Bx.made (bal h (Obj.cells #[.slice none 0 0] 40))
  rw [szA] at q; exact q
def Pr (wr X : World) (p q : Nat) : Prop := Bx wr X p ∧ Bx wr X q ∧ p ≠ q ∧ Below wr.heap.size wr X
theorem Pr.two {wr X : World} {p q : Nat} (h : Pr wr X p q) (x : Value) : X.cell? ⟨p, 0, none⟩ = some (.slice none 0 0) ∧ X.frozen? ⟨p, 0, none⟩ = false ∧ X.cell? ⟨q, 0, none⟩ = some (.slice none 0 0) ∧ X.frozen? ⟨q, 0, none⟩ = false ∧ (X.setCell ⟨p, 0, none⟩ x).cell? ⟨q, 0, none⟩ = some (.slice none 0 0) ∧ (X.setCell ⟨p, 0, none⟩ x).frozen? ⟨q, 0, none⟩ = false ∧ (X.setCell ⟨q, 0, none⟩ x).cell? ⟨p, 0, none⟩ = some (.slice none 0 0) ∧ (X.setCell ⟨q, 0, none⟩ x).frozen? ⟨p, 0, none⟩ = false :=
  ⟨cell1 h.1.box, frz h.1.box 0, cell1 h.2.1.box, frz h.2.1.box 0, cell1 (set_heap h.2.1.box x (Ne.symm h.2.2.1)), frz (set_heap h.2.1.box x (Ne.symm h.2.2.1)) 0, cell1 (set_heap h.1.box x h.2.2.1), frz (set_heap h.1.box x h.2.2.1) 0⟩
theorem Pr.symm {wr X : World} {p q : Nat} (h : Pr wr X p q) : Pr wr X q p := ⟨h.2.1, h.1, Ne.symm h.2.2.1, h.2.2.2⟩
theorem Pr.leaf {wr X : World} {p q v N : Nat} {qa ra : Option Addr} {qn qc rn rc : Nat} (h : Pr wr X p q) (hr : Row kI X (.slice qa qn qc) (dg (v / N))) (hn : rn = (dg (v % N)).length) : ∃ p7 p8 qa' qn' qc' ra' rn' rc', Value.pointer (some ⟨p, 0, none⟩) = .pointer (some ⟨p7, 0, none⟩) ∧ Value.pointer (some ⟨q, 0, none⟩) = .pointer (some ⟨p8, 0, none⟩) ∧ ((X.setCell ⟨p, 0, none⟩ (.slice qa qn qc)).setCell ⟨q, 0, none⟩ (.slice ra rn rc)).heap[p7]? = some (.cells #[.slice qa' qn' qc'] 40 (0, 0)) ∧ ((X.setCell ⟨p, 0, none⟩ (.slice qa qn qc)).setCell ⟨q, 0, none⟩ (.slice ra rn rc)).heap[p8]? = some (.cells #[.slice ra' rn' rc'] 40 (0, 0)) ∧ Row kI ((X.setCell ⟨p, 0, none⟩ (.slice qa qn qc)).setCell ⟨q, 0, none⟩ (.slice ra rn rc)) (.slice qa' qn' qc') (dg (v / N)) ∧ rn' = (dg (v % N)).length ∧ Below wr.heap.size wr ((X.setCell ⟨p, 0, none⟩ (.slice qa qn qc)).setCell ⟨q, 0, none⟩ (.slice ra rn rc)) :=
  ⟨p, q, qa, qn, qc, ra, rn, rc, rfl, rfl, set_heap (set1 h.1.box _) _ h.2.2.1, set1 (set_heap h.2.1.box _ (Ne.symm h.2.2.1)) _, row_set (set_heap h.2.1.box _ (Ne.symm h.2.2.1)) (row_set h.1.box hr _) _, hn, (h.2.2.2.setCell (p := ⟨p, 0, none⟩) h.1.ge _).setCell (p := ⟨q, 0, none⟩) h.2.1.ge _⟩
theorem newA (X : World) (t : TypeId) (a b : Value) : ((X.alloc (.cells #[a] t)).alloc (.cells #[b] t)).heap[X.heap.size]? = some (.cells #[a] t (0, 0)) ∧ ((X.alloc (.cells #[a] t)).alloc (.cells #[b] t)).heap[X.heap.size + 1]? = some (.cells #[b] t (0, 0)) := by
  refine ⟨?_, ?_⟩
  · rw [Below.heap_alloc _ _ _ (by simp)]; exact heap_alloc_new _ _
  · have q := heap_alloc_new (X.alloc (.cells #[a] t)) (.cells #[b] t)
    rw [szA] at q; exact q
theorem leafP {wr X : World} {v N : Nat} {qa ra : Option Addr} {qn qc rn rc : Nat} (hb : Below wr.heap.size wr X) (hr : Row kI X (.slice qa qn qc) (dg (v / N))) (hn : rn = (dg (v % N)).length) : ∃ p7 p8 qa' qn' qc' ra' rn' rc', Value.pointer (some ⟨X.heap.size, 0, none⟩) = .pointer (some ⟨p7, 0, none⟩) ∧ Value.pointer (some ⟨X.heap.size + 1, 0, none⟩) = .pointer (some ⟨p8, 0, none⟩) ∧ ((X.alloc (Obj.cells #[.slice qa qn qc] 40)).alloc (Obj.cells #[.slice ra rn rc] 40)).heap[p7]? = some (.cells #[.slice qa' qn' qc'] 40 (0, 0)) ∧ ((X.alloc (Obj.cells #[.slice qa qn qc] 40)).alloc (Obj.cells #[.slice ra rn rc] 40)).heap[p8]? = some (.cells #[.slice ra' rn' rc'] 40 (0, 0)) ∧ Row kI ((X.alloc (Obj.cells #[.slice qa qn qc] 40)).alloc (Obj.cells #[.slice ra rn rc] 40)) (.slice qa' qn' qc') (dg (v / N)) ∧ rn' = (dg (v % N)).length ∧ Below wr.heap.size wr ((X.alloc (Obj.cells #[.slice qa qn qc] 40)).alloc (Obj.cells #[.slice ra rn rc] 40)) :=
  ⟨X.heap.size, X.heap.size + 1, qa, qn, qc, ra, rn, rc, rfl, rfl, (newA X _ _ _).1, (newA X _ _ _).2, hr.below (bal (bal (Below.refl _ _) _) _), hn, bal (bal hb _) _⟩
theorem leafQ {wr X : World} {v N : Nat} {qa ra : Option Addr} {qn qc rn rc : Nat} (hb : Below wr.heap.size wr X) (hr : Row kI X (.slice qa qn qc) (dg (v / N))) (hn : rn = (dg (v % N)).length) : ∃ p7 p8 qa' qn' qc' ra' rn' rc', Value.pointer (some ⟨X.heap.size + 1, 0, none⟩) = .pointer (some ⟨p7, 0, none⟩) ∧ Value.pointer (some ⟨X.heap.size, 0, none⟩) = .pointer (some ⟨p8, 0, none⟩) ∧ ((X.alloc (Obj.cells #[.slice ra rn rc] 40)).alloc (Obj.cells #[.slice qa qn qc] 40)).heap[p7]? = some (.cells #[.slice qa' qn' qc'] 40 (0, 0)) ∧ ((X.alloc (Obj.cells #[.slice ra rn rc] 40)).alloc (Obj.cells #[.slice qa qn qc] 40)).heap[p8]? = some (.cells #[.slice ra' rn' rc'] 40 (0, 0)) ∧ Row kI ((X.alloc (Obj.cells #[.slice ra rn rc] 40)).alloc (Obj.cells #[.slice qa qn qc] 40)) (.slice qa' qn' qc') (dg (v / N)) ∧ rn' = (dg (v % N)).length ∧ Below wr.heap.size wr ((X.alloc (Obj.cells #[.slice ra rn rc] 40)).alloc (Obj.cells #[.slice qa qn qc] 40)) :=
  ⟨X.heap.size + 1, X.heap.size, qa, qn, qc, ra, rn, rc, rfl, rfl, (newA X _ _ _).2, (newA X _ _ _).1, hr.below (bal (bal (Below.refl _ _) _) _), hn, bal (bal hb _) _⟩
theorem leafR {p : Nat} {wr X : World} {v N : Nat} {qa ra : Option Addr} {qn qc rn rc : Nat} (hb : Below wr.heap.size wr X) (hr : Row kI X (.slice qa qn qc) (dg (v / N))) (hn : rn = (dg (v % N)).length) (h : Bx wr X p) : ∃ p7 p8 qa' qn' qc' ra' rn' rc', Value.pointer (some ⟨X.heap.size, 0, none⟩) = .pointer (some ⟨p7, 0, none⟩) ∧ Value.pointer (some ⟨p, 0, none⟩) = .pointer (some ⟨p8, 0, none⟩) ∧ ((X.alloc (Obj.cells #[.slice qa qn qc] 40)).setCell ⟨p, 0, none⟩ (.slice ra rn rc)).heap[p7]? = some (.cells #[.slice qa' qn' qc'] 40 (0, 0)) ∧ ((X.alloc (Obj.cells #[.slice qa qn qc] 40)).setCell ⟨p, 0, none⟩ (.slice ra rn rc)).heap[p8]? = some (.cells #[.slice ra' rn' rc'] 40 (0, 0)) ∧ Row kI ((X.alloc (Obj.cells #[.slice qa qn qc] 40)).setCell ⟨p, 0, none⟩ (.slice ra rn rc)) (.slice qa' qn' qc') (dg (v / N)) ∧ rn' = (dg (v % N)).length ∧ Below wr.heap.size wr ((X.alloc (Obj.cells #[.slice qa qn qc] 40)).setCell ⟨p, 0, none⟩ (.slice ra rn rc)) :=
  have q := ((bal (Below.refl X.heap.size X) (Obj.cells #[.slice qa qn qc] 40)).block p h.lt).trans h.box
  ⟨X.heap.size, p, qa, qn, qc, ra, rn, rc, rfl, rfl, set_heap (heap_alloc_new _ _) _ (Ne.symm (Nat.ne_of_lt h.lt)), set1 q _, row_set q (hr.below (bal (Below.refl _ _) _)) _, hn, (bal hb _).setCell (p := ⟨p, 0, none⟩) h.ge _⟩
theorem Sf.at {B m : Nat} {W : World} {g n c : Nat} {xs : List Su} (h : Sf B W (.slice (some ⟨g, 0, none⟩) n c) m xs) (i : Nat) (hi : i < m) : W.cell? ⟨g, i * 2, none⟩ = some (.string (sufT i)) ∧ W.cell? ⟨g, i * 2 + 1, none⟩ = some (.slice (xs.getD i kS.z).a (xs.getD i kS.z).n (xs.getD i kS.z).c) := by
  obtain ⟨b', off', e', hcc⟩ := (h.own.row okS).at i (by rw [h.len]; exact hi)
  simp only [Option.some.injEq, Addr.mk.injEq, and_true] at e'
  obtain ⟨rfl, rfl⟩ := e'
  have t0 := hcc 0 _ rfl
  have t1 := hcc 1 _ rfl
  rw [Nat.zero_add] at t0 t1
  rw [h.tx i hi] at t0
  exact ⟨t0, t1⟩
theorem sufN_lt (j : Nat) : sufN j < 10 ^ 19 := by unfold sufN; split <;> decide
theorem sufT_two (j : Nat) : (sufT j).size ≤ 2 := by unfold sufT; split <;> decide
end Lg
end Go.Proofs.YtjegjpdeclgegaaDoor
end S1

section S2
namespace Go.Proofs.YtjegjpdeclgegaaDoor
open Go.RowKit Go.Lib
open Go.Sort (grow)
namespace Lg
/-- Boxes of a region's own. -/
structure BL (wr X : World) (ps : List Nat) : Prop where
  bx : ∀ p ∈ ps, Bx wr X p
  nd : ps.Nodup
  be : Below wr.heap.size wr X
theorem BL.start {wr X : World} (h : Below wr.heap.size wr X) : BL wr X [] := ⟨fun _ q => absurd q (List.not_mem_nil), List.nodup_nil, h⟩
theorem BL.call {wr X Y : World} {ps : List Nat} (h : BL wr X ps) (hb : Below X.heap.size X Y) : BL wr Y ps := ⟨fun p hp => (h.bx p hp).call hb, h.nd, ht h.be hb⟩
theorem BL.more1 {wr X : World} {ps : List Nat} (h : BL wr X ps) : BL wr (X.alloc (Obj.cells #[.slice none 0 0] 40)) (X.heap.size :: ps) := by
  refine ⟨fun p hp => ?_, List.nodup_cons.2 ⟨fun q => absurd (h.bx _ q).lt (Nat.lt_irrefl _), h.nd⟩, bal h.be _⟩
  rcases List.mem_cons.1 hp with e | q
  · subst e; exact Bx.made h.be
  · exact (h.bx p q).alloc
theorem BL.more2 {wr X : World} {ps : List Nat} (h : BL wr X ps) : BL wr ((X.alloc (Obj.cells #[.slice none 0 0] 40)).alloc (Obj.cells #[.slice none 0 0] 40)) ((X.heap.size + 1) :: X.heap.size :: ps) := by
  have q := h.more1.more1
  rw [szA] at q; exact q
theorem BL.two {wr X : World} {p q : Nat} (h : BL wr X [q, p]) : Pr wr X p q := ⟨h.bx p (by simp), h.bx q (by simp), by have := h.nd; simp at this; exact Ne.symm this, h.be⟩
theorem BL.one {wr X : World} {p : Nat} (h : BL wr X [p]) : Bx wr X p ∧ Pr wr (X.alloc (Obj.cells #[.slice none 0 0] 40)) p X.heap.size := ⟨h.bx p (by simp), h.more1.two⟩
theorem BL.zero {wr X : World} (h : BL wr X []) : Pr wr ((X.alloc (Obj.cells #[.slice none 0 0] 40)).alloc (Obj.cells #[.slice none 0 0] 40)) X.heap.size (X.heap.size + 1) := h.more2.two
/-- What the region leaves: two boxes, the quotient and the rest. -/
def Lf (wr : World) (T D : Nat) (s7 s8 : Value) (wx : World) : Prop := ∃ p7 p8 qa qn qc ra rn rc, s7 = .pointer (some ⟨p7, 0, none⟩) ∧ s8 = .pointer (some ⟨p8, 0, none⟩) ∧ wx.heap[p7]? = some (.cells #[.slice qa qn qc] 40 (0, 0)) ∧ wx.heap[p8]? = some (.cells #[.slice ra rn rc] 40 (0, 0)) ∧ Row kI wx (.slice qa qn qc) (dg (T / D)) ∧ rn = (dg (T % D)).length ∧ Below wr.heap.size wr wx ∧ wr.heap.size ≤ p7
theorem Lf.of {wr wx : World} {T D p : Nat} {s8 : Value} (hp : wr.heap.size ≤ p) (h : ∃ p7 p8 qa qn qc ra rn rc, Value.pointer (some ⟨p, 0, none⟩) = .pointer (some ⟨p7, 0, none⟩) ∧ s8 = .pointer (some ⟨p8, 0, none⟩) ∧ wx.heap[p7]? = some (.cells #[.slice qa qn qc] 40 (0, 0)) ∧ wx.heap[p8]? = some (.cells #[.slice ra rn rc] 40 (0, 0)) ∧ Row kI wx (.slice qa qn qc) (dg (T / D)) ∧ rn = (dg (T % D)).length ∧ Below wr.heap.size wr wx) : Lf wr T D (.pointer (some ⟨p, 0, none⟩)) s8 wx := by
  obtain ⟨p7, p8, qa, qn, qc, ra, rn, rc, e1, e2, h1, h2, h3, h4, h5⟩ := h
  simp only [Value.pointer.injEq, Option.some.injEq, Addr.mk.injEq, and_true] at e1
  subst e1
  exact ⟨p, p8, qa, qn, qc, ra, rn, rc, rfl, e2, h1, h2, h3, h4, h5, hp⟩
theorem rev_step (ds : List Nat) (i : Nat) (hi : i < ds.length) : (ds.drop (i + 1)).reverse ++ [ds.getD i 0] = (ds.drop i).reverse := by
  rw [List.drop_eq_getElem_cons hi, List.reverse_cons, List.getD_eq_getElem?_getD, List.getElem?_eq_getElem hi]; rfl
set_option maxHeartbeats 16000000 in
set_option maxRecDepth 100000 in
theorem parsed_any (da : Option Addr) (dn dc : Nat) (ds : List Nat) (k N : Nat) (xa : Option Addr) (xn xc : Nat) (hds : Dgs ds) (hl : ds.length ≤ 19) (hk : k ≤ 19) (hN0 : 0 < N) (hN : N < 10 ^ 19) (CC : Nat) (x E : Int) (hC : CC = ceilT (vl ds.reverse * N) (10 ^ k)) (hX : (CC ≤ 9223372036854775807 ∧ x = (CC : Int) ∧ E = 0) ∨ (9223372036854775807 < CC ∧ x = 0 ∧ E = 7)) (w : World) (hd : Row kI w (.slice da dn dc) ds) (hx : Row kI w (.slice xa xn xc) (dg N)) :
    Calls Tryd.prog 21 #[.slice da dn dc, .int .i64 (k : Int), .agg #[.slice xa xn xc]] w fun e w' => e = .returned (.tuple #[.int .i64 x, .int .i64 E]) ∧ Below w.heap.size w w' := by
  have HX := Lib.hid hX
  have L1 := Lib.hid (fun W => long_n 1 W (by decide))
  obtain ⟨V, hV⟩ : ∃ V, V = vl ds.reverse := ⟨_, rfl⟩
  obtain ⟨T, hT⟩ : ∃ T, T = V * N := ⟨_, rfl⟩
  obtain ⟨D, hD⟩ : ∃ D, D = 10 ^ k := ⟨_, rfl⟩
  rw [← hV, ← hT, ← hD] at hC
  have DR : Dgs ds.reverse := fun y hy => hds y (List.mem_reverse.1 hy)
  have VB : V < 10 ^ 19 := by
    rw [hV]
    have q := vl_lt DR
    rw [List.length_reverse] at q
    exact Nat.lt_of_lt_of_le q (Nat.pow_le_pow_right (by decide) hl)
  have TL : Hid (T < 10 ^ 38) := Lib.hid (by
    rw [hT]
    have q1 : V * N ≤ 9999999999999999999 * 9999999999999999999 := Nat.mul_le_mul (by omega) (by omega)
    exact Nat.lt_of_le_of_lt q1 (by decide))
  have DB : D < 10 ^ 20 := by
    rw [hD]
    exact Nat.lt_of_le_of_lt (Nat.pow_le_pow_right (by decide) hk) (by decide)
  have D0 : 0 < D := by rw [hD]; exact Nat.pow_pos (by decide)
  have QL : Hid (T / D < 10 ^ 38) := Lib.hid (Nat.lt_of_le_of_lt (Nat.div_le_self _ _) TL.out)
  have CL : Hid (CC < 10 ^ 39) := Lib.hid (by
    rw [hC]
    unfold ceilT
    have q1 := QL.out
    have q2 : (10 : Nat) ^ 38 + 1 ≤ 10 ^ 39 := by decide
    split <;> omega)
  have NU : Hid (V = vl ds.reverse ∧ T = V * N ∧ D = 10 ^ k ∧ V < 10 ^ 19 ∧ D < 10 ^ 20 ∧ 0 < D ∧ CC = ceilT T D ∧ N < 10 ^ 19 ∧ k ≤ 19 ∧ Dgs ds.reverse ∧ ds.length ≤ 19) := Lib.hid ⟨hV, hT, hD, VB, DB, D0, hC, hN, hk, DR, hl⟩
  have RV := Lib.hid hd
  have RX := Lib.hid hx
  have hdl : dn = ds.length := by obtain ⟨_, _, e, _⟩ := hd.len; simp only [Value.slice.injEq] at e; exact e.2.1
  have hd19 : dn ≤ 19 := by omega
  have HN := Lib.hid hdl
  have BA : Hid (∀ o, Below w.heap.size w (w.alloc o)) := Lib.hid fun o => (Below.refl _ w).alloc (Nat.le_refl _) o
  clear hV hT hD hC hX hds hl hk hN0 hN VB DB D0 DR hd hx hdl
  go_enter Tryd.func21, Tryd.ntmps21
  go_wp2_with fail
  go_loopg [8, 9] dn (fun g sl si wr => ∃ (j : Nat) (la : Option Addr) (ln lc : Nat), g = j ∧ j ≤ dn ∧ si = .int .i64 ((j : Int) - 1) ∧ sl = .slice la ln lc ∧ OwnR kI (w.heap.size + 1) wr (.slice la ln lc) ((ds.drop j).reverse) ∧ Below (w.heap.size + 1) (w.alloc (.cells #[.slice xa xn xc] 40)) wr)
  case atStart => exact ⟨dn, none, 0, 0, rfl, Nat.le_refl _, by first | rfl | (congr 1; unfold wrap64; omega), rfl, by rw [List.drop_eq_nil_of_le (by rw [← HN.out]; exact Nat.le_refl _)]; exact OwnR.nil _ _ _, Below.refl _ _⟩
  case round =>
    obtain ⟨j, la, ln, lc, hg, hj, rfl, rfl, ho, hb⟩ := hrel
    have R : Hid (gk = j ∧ OwnR kI (w.heap.size + 1) wr (.slice la ln lc) ((ds.drop j).reverse) ∧ Below (w.heap.size + 1) (w.alloc (.cells #[.slice xa xn xc] 40)) wr) := Lib.hid ⟨hg, ho, hb⟩
    clear hg ho hb
    have BW : Hid (Below w.heap.size w wr) := Lib.hid ((BA.out _).trans (R.out.2.2.mono (Nat.le_succ _)))
    have WZ : Hid (w.heap.size + 1 ≤ wr.heap.size) := Lib.hid (by have := R.out.2.2.size; rw [World.size_alloc] at this; exact this)
    have H5 : Hid (wr.heap[w.heap.size]? = some (.cells #[.slice xa xn xc] 40 (0, 0))) := Lib.hid ((R.out.2.2.block _ (Nat.lt_succ_self _)).trans (heap_alloc_new _ _))
    rcases Nat.eq_zero_or_pos j with h0 | h0
    · subst h0
      have gz : decide (((0 : Nat) : Int) - 1 ≥ 0) = false := by decide
      have LW : Hid (Row kI wr (.slice la ln lc) ds.reverse) := Lib.hid (by have q := R.out.2.1.row okI; rwa [List.drop_zero] at q)
      have CU : Hid (∀ W, Below wr.heap.size wr W → Calls Tryd.prog 28 #[.slice la ln lc] W fun e w' => ∃ a n c, e = .returned (.agg #[.slice a n c]) ∧ Row kI w' (.slice a n c) (dg V) ∧ n ≤ 19 ∧ Below W.heap.size W w') := Lib.hid fun W h => by
        refine (cut_any (.slice la ln lc) ds.reverse W (LW.out.below h) NU.out.2.2.2.2.2.2.2.2.2.1).mono ?_
        rintro e w' ⟨a, n, c, h1, h2, h3⟩
        rw [← NU.out.1] at h2
        exact ⟨a, n, c, h1, h2, row_n h2 NU.out.2.2.2.1, h3⟩
      have TI : Hid (∀ W a n c, Below wr.heap.size wr W → Row kI W (.slice a n c) (dg V) → n ≤ 19 → Calls Tryd.prog 27 #[.agg #[.slice a n c], .agg #[.slice xa xn xc]] W fun e w' => ∃ a n c, e = .returned (.agg #[.slice a n c]) ∧ Row kI w' (.slice a n c) (dg T) ∧ n ≤ 38 ∧ Below W.heap.size W w') := Lib.hid fun W a n c h hr hn => by
        have rx : Row kI W (.slice xa xn xc) (dg N) := RX.out.below (BW.out.trans (h.mono BW.out.size))
        refine (times_any a xa n xn c xc V N W hr rx (by omega) (Nat.le_trans (row_n rx NU.out.2.2.2.2.2.2.2.1) (by decide))).mono ?_
        rintro e w' ⟨a, n, c, h1, h2, h3⟩
        rw [← NU.out.2.1] at h2
        exact ⟨a, n, c, h1, h2, row_n h2 TL.out, h3⟩
      have PW : Hid (∀ W, Calls Tryd.prog 26 #[.int .i64 10, .int .i64 (k : Int)] W fun e w' => ∃ a n c, e = .returned (.agg #[.slice a n c]) ∧ Row kI w' (.slice a n c) (dg D) ∧ n ≤ 20 ∧ Below W.heap.size W w') := Lib.hid fun W => by
        refine (power_fr 10 k W (by decide) (by have := NU.out.2.2.2.2.2.2.2.2.1; omega)).mono ?_
        rintro e w' ⟨a, n, c, h1, h2, h3, h4⟩
        rw [← NU.out.2.2.1] at h2
        exact ⟨a, n, c, h1, h2, row_n h2 NU.out.2.2.2.2.1, h4⟩
      have BY : Hid (∀ W a n c a' n' c', Row kI W (.slice a n c) (dg T) → n ≤ 38 → Row kI W (.slice a' n' c') (dg D) → n' ≤ 20 → Calls Tryd.prog 15 #[.agg #[.slice a n c], .agg #[.slice a' n' c']] W fun e w' => ∃ a n c a' n' c', e = .returned (.tuple #[.agg #[.slice a n c], .agg #[.slice a' n' c']]) ∧ Row kI w' (.slice a n c) (dg (T / D)) ∧ Row kI w' (.slice a' n' c') (dg (T % D)) ∧ Below W.heap.size W w') := Lib.hid fun W a n c a' n' c' h1 h2 h3 h4 => by_any a a' n n' c c' T D W h1 h3 (by omega) (by omega) NU.out.2.2.2.2.2.1
      have BD : Hid (Below wr.heap.size wr wr.drew) := Lib.hid ((Below.refl _ wr).drew)
      have c5 : wr.cell? ⟨w.heap.size, 0, none⟩ = some (.slice xa xn xc) := cell1 H5.out
      have GL : w.heap.size < wr.heap.size := WZ.out
      go_wp2_with fail
      go_cut [10, 11] (fun s7 s8 wx => Lf wr T D s7 s8 wx)
      case first =>
        have d1 : wr.drew.cell? ⟨w.heap.size, 0, none⟩ = some (.slice xa xn xc) := c5
        have d2 := cellA d1 (Obj.cells #[.slice none 0 0] 40)
        have d3 := cellA d2 (Obj.cells #[.slice none 0 0] 40)
        go_region_held3 (fun W : World => W.cell? ⟨w.heap.size, 0, none⟩ = some (.slice xa xn xc)) (first | assumption | exact cellA (by assumption) _ | exact setA (by assumption) (by assumption) _ | exact setA (cellA (by assumption) _) (by assumption) _ | exact cellA (cellA (by assumption) _) _ | go_keep) (first
          | (go_at_call 28
             refine (CU.out _ (by first | exact BD.out | exact bal BD.out _ | exact bal (bal BD.out _) _)).mono ?_
             rintro e x1 ⟨a1, n1, c1, rfl, hr1, hn1, hb1⟩
             have Q1 : Hid (Row kI x1 (.slice a1 n1 c1) (dg V) ∧ n1 ≤ 19 ∧ Below wr.heap.size wr x1) := Lib.hid ⟨hr1, hn1, by first | exact ht BD.out hb1 | exact ht (bal BD.out _) hb1 | exact ht (bal (bal BD.out _) _) hb1⟩
             have z1 : x1.cell? ⟨w.heap.size, 0, none⟩ = some (.slice xa xn xc) := (Q1.out.2.2.cell (block_lt_of_cell c5)).trans c5
             have z2 := cellA z1 (Obj.cells #[.slice none 0 0] 40)
             have z3 := cellA z2 (Obj.cells #[.slice none 0 0] 40)
             first
               | (have J1 : Hid (BL wr x1 [wr.heap.size + 1, wr.heap.size]) := Lib.hid ((BL.start BD.out).more2.call hb1))
               | (have J1 : Hid (BL wr x1 [wr.heap.size]) := Lib.hid ((BL.start BD.out).more1.call hb1))
               | (have J1 : Hid (BL wr x1 []) := Lib.hid ((BL.start BD.out).call hb1))
             clear hr1 hn1 hb1)
          | (go_at_call 27
             refine (TI.out _ a1 n1 c1 (by first | exact Q1.out.2.2 | exact bal Q1.out.2.2 _ | exact bal (bal Q1.out.2.2 _) _) (by first | exact Q1.out.1 | exact Q1.out.1.below (bal (Below.refl _ _) _) | exact Q1.out.1.below (bal (bal (Below.refl _ _) _) _)) Q1.out.2.1).mono ?_
             rintro e x2 ⟨a2, n2, c2, rfl, hr2, hn2, hb2⟩
             have Q2 : Hid (Row kI x2 (.slice a2 n2 c2) (dg T) ∧ n2 ≤ 38 ∧ Below wr.heap.size wr x2) := Lib.hid ⟨hr2, hn2, by first | exact ht Q1.out.2.2 hb2 | exact ht (bal Q1.out.2.2 _) hb2 | exact ht (bal (bal Q1.out.2.2 _) _) hb2⟩
             have z4 : x2.cell? ⟨w.heap.size, 0, none⟩ = some (.slice xa xn xc) := (Q2.out.2.2.cell (block_lt_of_cell c5)).trans c5
             have z5 := cellA z4 (Obj.cells #[.slice none 0 0] 40)
             have z6 := cellA z5 (Obj.cells #[.slice none 0 0] 40)
             first
               | (have J2 := Lib.hid (J1.out.more2.call hb2))
               | (have J2 := Lib.hid (J1.out.more1.call hb2))
               | (have J2 := Lib.hid (J1.out.call hb2))
             clear hr2 hn2 hb2)
          | (go_at_call 26
             refine (PW.out _).mono ?_
             rintro e x3 ⟨a3, n3, c3, rfl, hr3, hn3, hb3⟩
             have Q3 : Hid (Row kI x3 (.slice a2 n2 c2) (dg T) ∧ n2 ≤ 38 ∧ Row kI x3 (.slice a3 n3 c3) (dg D) ∧ n3 ≤ 20 ∧ Below wr.heap.size wr x3) := Lib.hid ⟨by first | exact Q2.out.1.below hb3 | exact (Q2.out.1.below (bal (Below.refl _ _) _)).below hb3 | exact (Q2.out.1.below (bal (bal (Below.refl _ _) _) _)).below hb3, Q2.out.2.1, hr3, hn3, by first | exact ht Q2.out.2.2 hb3 | exact ht (bal Q2.out.2.2 _) hb3 | exact ht (bal (bal Q2.out.2.2 _) _) hb3⟩
             have z7 : x3.cell? ⟨w.heap.size, 0, none⟩ = some (.slice xa xn xc) := (Q3.out.2.2.2.2.cell (block_lt_of_cell c5)).trans c5
             have z8 := cellA z7 (Obj.cells #[.slice none 0 0] 40)
             have z9 := cellA z8 (Obj.cells #[.slice none 0 0] 40)
             first
               | (have J3 := Lib.hid (J2.out.more2.call hb3))
               | (have J3 := Lib.hid (J2.out.more1.call hb3))
               | (have J3 := Lib.hid (J2.out.call hb3))
             clear hr3 hn3 hb3)
          | (go_at_call 15
             refine (BY.out _ a2 n2 c2 a3 n3 c3 (by first | exact Q3.out.1 | exact Q3.out.1.below (bal (Below.refl _ _) _) | exact Q3.out.1.below (bal (bal (Below.refl _ _) _) _)) Q3.out.2.1 (by first | exact Q3.out.2.2.1 | exact Q3.out.2.2.1.below (bal (Below.refl _ _) _) | exact Q3.out.2.2.1.below (bal (bal (Below.refl _ _) _) _)) Q3.out.2.2.2.1).mono ?_
             rintro e x7 ⟨qa, qn, qc, ra, rn, rc, rfl, hrq, hrr, hb7⟩
             have Q7 : Hid (Row kI x7 (.slice qa qn qc) (dg (T / D)) ∧ rn = (dg (T % D)).length ∧ Below wr.heap.size wr x7) := Lib.hid ⟨hrq, row_len hrr, by first | exact ht Q3.out.2.2.2.2 hb7 | exact ht (bal Q3.out.2.2.2.2 _) hb7 | exact ht (bal (bal Q3.out.2.2.2.2 _) _) hb7⟩
             first
               | (have J4 := Lib.hid (J3.out.more2.call hb7))
               | (have J4 := Lib.hid (J3.out.more1.call hb7))
               | (have J4 := Lib.hid (J3.out.call hb7))
             first
               | (have L2 := Lib.hid J4.out.two)
               | (have L3 := Lib.hid J4.out.one.1; have L2 := Lib.hid J4.out.one.2; obtain ⟨k1, k2⟩ := L3.out.any (.cells #[.slice qa qn qc] 40))
               | (have L2 := Lib.hid J4.out.zero)
             obtain ⟨y1, y2, y3, y4, y5, y6, y7, y8⟩ := L2.out.two (.slice qa qn qc)
             have n1 := L2.out.2.2.1
             have m1 := Nat.ne_of_lt (Nat.lt_of_lt_of_le GL L2.out.1.ge)
             have m2 := Nat.ne_of_lt (Nat.lt_of_lt_of_le GL L2.out.2.1.ge)
             have z10 : x7.cell? ⟨w.heap.size, 0, none⟩ = some (.slice xa xn xc) := (Q7.out.2.2.cell (block_lt_of_cell c5)).trans c5
             have n2 := Ne.symm L2.out.2.2.1
             clear hrq hrr hb7))
        all_goals
          go_wp2_with fail
          go_meet
          first
            | exact Lf.of L2.out.1.ge (L2.out.leaf (by first | exact Q7.out.1 | exact Q7.out.1.below (bal (Below.refl _ _) _) | exact Q7.out.1.below (bal (bal (Below.refl _ _) _) _)) Q7.out.2.1)
            | exact Lf.of L2.out.2.1.ge (L2.out.symm.leaf (by first | exact Q7.out.1 | exact Q7.out.1.below (bal (Below.refl _ _) _) | exact Q7.out.1.below (bal (bal (Below.refl _ _) _) _)) Q7.out.2.1)
            | exact Lf.of Q7.out.2.2.size (leafP Q7.out.2.2 Q7.out.1 Q7.out.2.1)
            | exact Lf.of (Nat.le_succ_of_le Q7.out.2.2.size) (leafQ Q7.out.2.2 Q7.out.1 Q7.out.2.1)
            | exact Lf.of Q7.out.2.2.size (leafR Q7.out.2.2 Q7.out.1 Q7.out.2.1 L3.out)
      case rest =>
        obtain ⟨p7, p8, a5, n5, c5', a6, n6, c6, rfl, rfl, b7, b8, hq, hn, hbx, hge⟩ := hcut
        obtain ⟨W6, hW6⟩ : ∃ W, W = wc := ⟨_, rfl⟩
        rw [← hW6] at b7 b8 hq hbx ⊢
        clear hW6
        have F6 : Hid (W6.heap[p7]? = some (.cells #[.slice a5 n5 c5'] 40 (0, 0)) ∧ W6.heap[p8]? = some (.cells #[.slice a6 n6 c6] 40 (0, 0)) ∧ Row kI W6 (.slice a5 n5 c5') (dg (T / D)) ∧ Below w.heap.size w W6 ∧ w.heap.size ≤ p7) := Lib.hid ⟨b7, b8, hq, BW.out.trans (hbx.mono BW.out.size), Nat.le_trans BW.out.size hge⟩
        have N6 : Hid (n6 = (dg (T % D)).length) := Lib.hid hn
        have N5 : Hid (n5 ≤ 38) := Lib.hid (row_n hq QL.out)
        have k7 := cell1 b7
        have k8 := cell1 b8
        clear b7 b8 hq hn hbx hge CU TI PW BY LW R BD
        rcases Nat.eq_zero_or_pos (T % D) with hz | hz
        · have n60 : n6 = 0 := by rw [N6.out]; exact dg_none hz
          subst n60
          have C0 : Hid (CC = T / D) := Lib.hid (by rw [NU.out.2.2.2.2.2.2.1]; unfold ceilT; rw [if_neg (by omega)]; omega)
          have Q6 : Hid (Row kI W6 (.slice a5 n5 c5') (dg CC) ∧ Below w.heap.size w W6) := Lib.hid ⟨by rw [C0.out]; exact F6.out.2.2.1, F6.out.2.2.2.1⟩
          clear hz
          have VN := Lib.hid (row_n Q6.out.1 CL.out)
          rcases HX.out with ⟨h, hx, hE⟩ | ⟨h, hx, hE⟩
          · subst hx hE
            have VY := Lib.hid (value_yes _ _ _ CC W6 Q6.out.1 (Nat.le_trans VN.out (by decide)) h)
            clear h
            go_wp2_with fail
            refine VY.out.mono ?_
            rintro e w9 ⟨rfl, hb9⟩
            have B9 : Hid (Below w.heap.size w w9) := Lib.hid (Q6.out.2.trans (hb9.mono Q6.out.2.size))
            clear hb9 k7 k8
            go_wp2_with fail
            go_ret2
            exact ⟨rfl, B9.out⟩
          · subst hx hE
            have VY := Lib.hid (value_no _ _ _ CC W6 Q6.out.1 h)
            clear h
            go_wp2_with fail
            refine VY.out.mono ?_
            rintro e w9 ⟨rfl, hb9⟩
            have B9 : Hid (Below w.heap.size w w9) := Lib.hid (Q6.out.2.trans (hb9.mono Q6.out.2.size))
            clear hb9 k7 k8
            go_wp2_with fail
            go_ret2
            exact ⟨rfl, B9.out⟩
        · have n61 : 0 < n6 := by rw [N6.out]; exact dg_some hz
          have g6 : decide ((n6 : Int) > 0) = true := decide_eq_true (by omega)
          have C0 : Hid (CC = T / D + 1) := Lib.hid (by rw [NU.out.2.2.2.2.2.2.1]; unfold ceilT; rw [if_pos hz])
          have q8 : (W6.drew).cell? ⟨p7, 0, none⟩ = some (.slice a5 n5 c5') := cell1 F6.out.1
          have GP : Hid (p7 < W6.heap.size) := Lib.hid (block_lt_of_cell (cell1 F6.out.1))
          clear hz
          go_wp2_with fail
          go_region_with (first | (go_at_call 12; refine (L1.out _).mono ?_; rintro e w7 ⟨a7, n7, c7, rfl, hr7, hn7, hb7⟩; have S7 : Hid (Below W6.heap.size W6 w7 ∧ Row kI w7 (.slice a7 n7 c7) (dg 1) ∧ n7 ≤ 19) := Lib.hid ⟨(Below.refl W6.heap.size W6).drew.trans hb7, hr7, hn7⟩; have k9 : w7.cell? ⟨p7, 0, none⟩ = some (.slice a5 n5 c5') := cell1 ((S7.out.1.block _ GP.out).trans F6.out.1); clear hr7 hb7 hn7) | (go_at_call 35; refine (plus_any a5 a7 n5 n7 c5' c7 (T / D) 1 _ (F6.out.2.2.1.below S7.out.1) S7.out.2.1 (by have := N5.out; omega) (by have := S7.out; omega)).mono ?_; rintro e w8 ⟨a8, n8, c8, rfl, hr8, hb8⟩; have S8 : Hid (Below W6.heap.size W6 w8 ∧ Row kI w8 (.slice a8 n8 c8) (dg CC)) := Lib.hid ⟨S7.out.1.trans (hb8.mono S7.out.1.size), by rw [C0.out]; exact hr8⟩; have H8 : Hid (w8.heap[p7]? = some (.cells #[.slice a5 n5 c5'] 40 (0, 0))) := Lib.hid ((S8.out.1.block _ GP.out).trans F6.out.1); have t8 := cell1 H8.out; have f8 := frz H8.out 0; clear hr8 hb8))
          all_goals
            obtain ⟨W8, hW8⟩ : ∃ W, W = w8.setCell ⟨p7, 0, none⟩ (.slice a8 n8 c8) := ⟨_, rfl⟩
            have Q6 : Hid (W8.heap[p7]? = some (.cells #[.slice a8 n8 c8] 40 (0, 0)) ∧ Row kI W8 (.slice a8 n8 c8) (dg CC) ∧ Below w.heap.size w W8) := Lib.hid (by
              rw [hW8]
              exact ⟨set1 H8.out _, row_set H8.out S8.out.2 _, (F6.out.2.2.2.1.trans (S8.out.1.mono F6.out.2.2.2.1.size)).setCell (p := ⟨p7, 0, none⟩) F6.out.2.2.2.2 _⟩)
            rw [← hW8]
            clear hW8 t8 f8
            have t8 := cell1 Q6.out.1
            have VN := Lib.hid (row_n Q6.out.2.1 CL.out)
            rcases HX.out with ⟨h, hx, hE⟩ | ⟨h, hx, hE⟩
            · subst hx hE
              have VY := Lib.hid (value_yes _ _ _ CC W8 Q6.out.2.1 (Nat.le_trans VN.out (by decide)) h)
              clear h
              go_wp2_with fail
              refine VY.out.mono ?_
              rintro e w9 ⟨rfl, hb9⟩
              have B9 : Hid (Below w.heap.size w w9) := Lib.hid (Q6.out.2.2.trans (hb9.mono Q6.out.2.2.size))
              clear hb9 t8
              go_wp2_with fail
              go_ret2
              exact ⟨rfl, B9.out⟩
            · subst hx hE
              have VY := Lib.hid (value_no _ _ _ CC W8 Q6.out.2.1 h)
              clear h
              go_wp2_with fail
              refine VY.out.mono ?_
              rintro e w9 ⟨rfl, hb9⟩
              have B9 : Hid (Below w.heap.size w w9) := Lib.hid (Q6.out.2.2.trans (hb9.mono Q6.out.2.2.size))
              clear hb9 t8
              go_wp2_with fail
              go_ret2
              exact ⟨rfl, B9.out⟩
    · obtain ⟨i, rfl⟩ : ∃ i, j = i + 1 := ⟨j - 1, by omega⟩
      have ei : (((i + 1 : Nat) : Int) - 1) = (i : Int) := by omega
      rw [ei]
      clear ei
      have gi : decide ((i : Int) ≥ 0) = true := decide_eq_true (by omega)
      have hin : (i : Int) < (dn : Int) := by omega
      obtain ⟨b, off, rfl, c0⟩ := Row.one (RV.out.below BW.out) i (by rw [← HN.out]; omega)
      obtain ⟨y, hy⟩ : ∃ y, y = ds.getD i 0 := ⟨_, rfl⟩
      rw [← hy] at c0
      have HY := Lib.hid hy
      have LN : Hid (((ds.drop (i + 1)).reverse.length + 1) * kI.b ≤ 140737488355328) := Lib.hid (by
        have q := NU.out.2.2.2.2.2.2.2.2.2.2
        rw [List.length_reverse, List.length_drop]
        show (ds.length - (i + 1) + 1) * 8 ≤ _
        omega)
      clear hy
      go_wp2_with (at_builtin; refine app_rowB okI (gg := wr.heap.size) rfl _ _ rfl rfl R.out.2.1 WZ.out y (by simp) rfl rfl LN.out ?_; intro v' w' h1 h2)
      obtain ⟨a2, c2, rfl⟩ := h1.slice
      have Z : Hid (OwnR kI (w.heap.size + 1) w' (.slice a2 ((ds.drop (i + 1)).reverse ++ [y]).length c2) ((ds.drop (i + 1)).reverse ++ [y]) ∧ Below (w.heap.size + 1) (w.alloc (.cells #[.slice xa xn xc] 40)) w') := Lib.hid ⟨h1, R.out.2.2.trans (grown_belowR h2 R.out.2.1 WZ.out)⟩
      clear h1 h2 c0
      go_wp2_with fail
      go_roundg i
      case measure => have := R.out.1; omega
      case rel => exact ⟨i, a2, _, c2, rfl, by omega, by first | rfl | (congr 1; unfold wrap64; omega), rfl, by rw [← rev_step ds i (by rw [← HN.out]; omega), ← HY.out]; exact Z.out.1, Z.out.2⟩
end Lg
end Go.Proofs.YtjegjpdeclgegaaDoor
end S2

section S3
namespace Go.Proofs.YtjegjpdeclgegaaDoor
open Go.RowKit Go.Lib
namespace Lg
def dv (c : UInt8) : Nat := c.toNat - 48
theorem vl_num (q : List UInt8) : vl (q.map dv).reverse = numOf q := by
  have key : ∀ r : List UInt8, vl (r.map dv) = numOf r.reverse := by
    intro r
    induction r with
    | nil => rfl
    | cons c r ih => rw [List.map_cons, vl, ih, List.reverse_cons, numOf_snoc]; unfold dv; omega
  have := key q.reverse
  rwa [List.map_reverse, List.reverse_reverse] at this
def Dg (c : UInt8) : Prop := 48 ≤ c.toNat ∧ c.toNat ≤ 57
theorem isD_of {c : UInt8} (h : Dg c) : isD c = true := by
  have e : ∀ k : Nat, c.toNat = k → c = UInt8.ofNat k := fun k hk => by rw [← hk, UInt8.ofNat_toNat]
  obtain ⟨h1, h2⟩ := h
  rcases (by omega : c.toNat = 48 ∨ c.toNat = 49 ∨ c.toNat = 50 ∨ c.toNat = 51 ∨ c.toNat = 52 ∨ c.toNat = 53 ∨ c.toNat = 54 ∨ c.toNat = 55 ∨ c.toNat = 56 ∨ c.toNat = 57) with q | q | q | q | q | q | q | q | q | q <;> (rw [e _ q]; decide)
theorem rst_head : ∀ (l : List UInt8) (c : UInt8) (r : List UInt8), rst l = c :: r → isD c = false := by
  intro l
  induction l with
  | nil => intro c r h; simp [rst] at h
  | cons x l ih =>
    intro c r h
    unfold rst at h ih
    rw [List.dropWhile_cons] at h
    split at h
    · exact ih c r h
    · rename_i hx
      injection h with h1 h2
      subst h1
      simpa using hx
theorem l_eq0 (t : ByteArray) : t.data.toList = pW t ++ pR t := (dgs_rst _).symm
theorem pR_dot {t : ByteArray} (h : pD t = true) : pR t = 46 :: pB t := by
  unfold pB trimPrefix
  unfold pD at h
  rw [if_pos h]
  unfold hasPrefix at h
  cases hr : pR t with
  | nil => rw [hr] at h; simp at h
  | cons c r =>
    rw [hr] at h
    simp [List.isPrefixOf] at h
    rw [← h]; rfl
theorem pB_eq {t : ByteArray} (h : pD t = true) : pB t = pP t ++ pS t := by
  unfold pP pS
  rw [if_pos h, if_pos h]
  exact (dgs_rst _).symm
theorem l_eq1 {t : ByteArray} (h : pD t = true) : t.data.toList = pW t ++ 46 :: (pP t ++ pS t) := by rw [← pB_eq h, ← pR_dot h]; exact l_eq0 t
theorem pD_of {t : ByteArray} {r : List UInt8} (h : pR t = 46 :: r) : pD t = true := by
  unfold pD hasPrefix; rw [h]; rfl
theorem pP_none {t : ByteArray} (h : pD t = false) : pP t = [] ∧ pS t = pR t := by
  unfold pP pS; rw [h]; exact ⟨rfl, rfl⟩
theorem pW_dg (t : ByteArray) : ∀ c ∈ pW t, Dg c := fun c hc => dgs_range _ c hc
theorem pP_dg (t : ByteArray) : ∀ c ∈ pP t, Dg c := pP_range t
theorem dot_no : ¬ Dg 46 := by unfold Dg; decide
/-- Where the loop stands. -/
def Ps (t : ByteArray) (n dots : Nat) (q : List UInt8) (bh : Nat) : Prop :=
  (dots = 0 ∧ bh = 0 ∧ n ≤ (pW t).length ∧ q = (pW t).take n) ∨
  (dots = 1 ∧ pD t = true ∧ pW t ≠ [] ∧ pP t ≠ [] ∧ bh ≤ (pP t).length ∧ n = (pW t).length + 1 + bh ∧ q = pW t ++ (pP t).take bh)
theorem ps_start (t : ByteArray) : Ps t 0 0 [] 0 := Or.inl ⟨rfl, rfl, Nat.zero_le _, rfl⟩
theorem ps_dots {t : ByteArray} {n dots bh : Nat} {q : List UInt8} (h : Ps t n dots q bh) : dots = 0 ∨ dots = 1 := h.elim (fun h => .inl h.1) (fun h => .inr h.1)
theorem ps_len {t : ByteArray} {n dots bh : Nat} {q : List UInt8} (h : Ps t n dots q bh) : q.length ≤ n ∧ bh ≤ n := by
  rcases h with ⟨_, rfl, _, rfl⟩ | ⟨_, _, _, _, hb, rfl, rfl⟩
  · rw [List.length_take]; omega
  · rw [List.length_append, List.length_take]; omega
theorem snoc_take {l : List UInt8} {n : Nat} {c : UInt8} (h : l[n]? = some c) : l.take n ++ [c] = l.take (n + 1) := by
  rw [List.take_add_one, h]; rfl
theorem at_left {a b : List UInt8} {n : Nat} (h : n < a.length) : (a ++ b)[n]? = a[n]? := List.getElem?_append_left h
theorem rst_at {l : List UInt8} {c : UInt8} (h : (rst l)[0]? = some c) : ¬ Dg c := by
  cases hr : rst l with
  | nil => rw [hr] at h; simp at h
  | cons x r =>
    rw [hr] at h
    simp at h
    subst h
    intro hd
    have := rst_head l x r hr
    rw [isD_of hd] at this; cases this
theorem pR_at {t : ByteArray} {c : UInt8} (h : (pR t)[0]? = some c) : ¬ Dg c := rst_at h
theorem pS_at {t : ByteArray} (hD : pD t = true) {c : UInt8} (h : (pS t)[0]? = some c) : ¬ Dg c := by
  unfold pS at h; rw [if_pos hD] at h; exact rst_at h
theorem at0 {t : ByteArray} {n : Nat} (h : n = (pW t).length) : t.data.toList[n]? = (pR t)[0]? := by
  rw [l_eq0 t, List.getElem?_append_right (by omega)]; congr 1; omega
theorem at1 {t : ByteArray} (hD : pD t = true) {n k : Nat} (h : n = (pW t).length + 1 + k) : t.data.toList[n]? = (pP t ++ pS t)[k]? := by
  rw [l_eq1 hD, List.getElem?_append_right (by omega), show n - (pW t).length = k + 1 by omega, List.getElem?_cons_succ]
theorem at1S {t : ByteArray} (hD : pD t = true) {n : Nat} (h : n = (pW t).length + 1 + (pP t).length) : t.data.toList[n]? = (pS t)[0]? := by
  rw [at1 hD h, List.getElem?_append_right (Nat.le_refl _), Nat.sub_self]
theorem ps_digit {t : ByteArray} {n dots bh : Nat} {q : List UInt8} (h : Ps t n dots q bh) {c : UInt8} (hc : t.data.toList[n]? = some c) (hd : Dg c) : Ps t (n + 1) dots (q ++ [c]) (bh + dots) := by
  rcases h with ⟨rfl, rfl, hn, rfl⟩ | ⟨rfl, hD, hW, hP, hb, hn, rfl⟩
  · rcases Nat.lt_or_eq_of_le hn with z | z
    · refine Or.inl ⟨rfl, rfl, z, snoc_take ?_⟩
      rw [l_eq0 t, at_left z] at hc; exact hc
    · rw [at0 z] at hc
      exact absurd hd (pR_at hc)
  · rcases Nat.lt_or_eq_of_le hb with z | z
    · refine Or.inr ⟨rfl, hD, hW, hP, z, by omega, ?_⟩
      rw [at1 hD hn, at_left z] at hc
      rw [List.append_assoc, snoc_take hc]
    · subst z
      rw [at1S hD hn] at hc
      exact absurd hd (pS_at hD hc)
theorem ps_dot0 {t : ByteArray} {n bh : Nat} {q : List UInt8} (h : Ps t n 0 q bh) (hc : t.data.toList[n]? = some 46) : n = (pW t).length ∧ pD t = true ∧ q = pW t ∧ bh = 0 := by
  rcases h with ⟨_, rfl, hn, rfl⟩ | ⟨h, _⟩
  · rcases Nat.lt_or_eq_of_le hn with z | z
    · rw [l_eq0 t, at_left z] at hc
      exact absurd (pW_dg t 46 (List.mem_of_getElem? hc)) dot_no
    · refine ⟨z, ?_, by rw [z, List.take_length], rfl⟩
      rw [at0 z] at hc
      cases hr : pR t with
      | nil => rw [hr] at hc; simp at hc
      | cons x r =>
        rw [hr] at hc
        simp at hc
        subst hc
        exact pD_of hr
  · cases h
theorem ps_dot_ok {t : ByteArray} {n bh : Nat} {q : List UInt8} (h : Ps t n 0 q bh) (hc : t.data.toList[n]? = some 46) (h0 : n ≠ 0) {c : UInt8} (hc' : t.data.toList[n + 1]? = some c) (hd : Dg c) : Ps t (n + 1) 1 q bh := by
  obtain ⟨hn, hD, rfl, rfl⟩ := ps_dot0 h hc
  refine Or.inr ⟨rfl, hD, fun e => h0 (by rw [hn, e]; rfl), fun e => ?_, Nat.zero_le _, by omega, by simp⟩
  rw [at1 hD (show n + 1 = _ + 1 + 0 by omega), e, List.nil_append] at hc'
  exact pS_at hD hc' hd
theorem ps_dot_no {t : ByteArray} {n bh : Nat} {q : List UInt8} (h : Ps t n 0 q bh) (hc : t.data.toList[n]? = some 46) (hx : n = 0 ∨ ∀ c, t.data.toList[n + 1]? = some c → ¬ Dg c) : parseR t = (0, 30) := by
  obtain ⟨hn, hD, rfl, rfl⟩ := ps_dot0 h hc
  unfold parseR
  rw [if_neg]
  rintro ⟨h1, h2, -, -⟩
  rcases hx with e | e
  · exact h1 (List.eq_nil_of_length_eq_zero (by omega))
  · have hp := h2 hD
    cases hP : pP t with
    | nil => exact hp hP
    | cons c r =>
      refine e c ?_ (pP_dg t c (by rw [hP]; simp))
      rw [at1 hD (show n + 1 = _ + 1 + 0 by omega), hP]; rfl
theorem suf_dot (i : Nat) (r : List UInt8) : sufT i ≠ ⟨(46 :: r).toArray⟩ := by
  intro h
  have q : (sufT i).data.toList = 46 :: r := by rw [h]
  unfold sufT at q
  split at q <;> simp at q
theorem ps_dot1 {t : ByteArray} {n bh : Nat} {q : List UInt8} (h : Ps t n 1 q bh) (hc : t.data.toList[n]? = some 46) : parseR t = (0, 30) := by
  rcases h with ⟨h, _⟩ | ⟨_, hD, hW, hP, hb, hn, rfl⟩
  · cases h
  · have z : bh = (pP t).length := by
      rcases Nat.lt_or_eq_of_le hb with z | z
      · rw [at1 hD hn, at_left z] at hc
        exact absurd (pP_dg t 46 (List.mem_of_getElem? hc)) dot_no
      · exact z
    subst z
    rw [at1S hD hn] at hc
    unfold parseR
    rw [if_neg]
    rintro ⟨-, -, h3, -⟩
    refine h3 ?_
    unfold pF
    cases hS : pS t with
    | nil => rw [hS] at hc; simp at hc
    | cons x r =>
      rw [hS] at hc
      simp at hc
      subst hc
      exact facR_none (fun i _ => suf_dot i r)
theorem ps_end {t : ByteArray} {n dots bh : Nat} {q : List UInt8} (h : Ps t n dots q bh) (he : ∀ c, t.data.toList[n]? = some c → ¬ Dg c ∧ c ≠ 46) : q = pW t ++ pP t ∧ bh = (pP t).length ∧ t.data.toList.drop n = pS t ∧ (pD t = true → pP t ≠ []) ∧ (q ≠ [] → pW t ≠ []) := by
  rcases h with ⟨rfl, rfl, hn, rfl⟩ | ⟨rfl, hD, hW, hP, hb, hn, rfl⟩
  · have z : n = (pW t).length := by
      rcases Nat.lt_or_eq_of_le hn with z | z
      · have e : (pW t)[n]? = some (pW t)[n] := List.getElem?_eq_getElem z
        have := he _ (by rw [l_eq0 t, at_left z]; exact e)
        exact absurd (pW_dg t _ (List.getElem_mem z)) this.1
      · exact z
    have hD : pD t = false := by
      cases hd : pD t with
      | false => rfl
      | true => exact absurd rfl (he 46 (by rw [at0 z, pR_dot hd]; rfl)).2
    obtain ⟨e1, e2⟩ := pP_none hD
    rw [e1, e2]
    refine ⟨by rw [z, List.take_length, List.append_nil], rfl, ?_, (fun h => by rw [hD] at h; exact absurd h (by decide)), (fun h e => h (by rw [e]; simp))⟩
    rw [l_eq0 t, z, List.drop_left]
  · have z : bh = (pP t).length := by
      rcases Nat.lt_or_eq_of_le hb with z | z
      · have e : (pP t)[bh]? = some (pP t)[bh] := List.getElem?_eq_getElem z
        have := he _ (by rw [at1 hD hn, at_left z]; exact e)
        exact absurd (pP_dg t _ (List.getElem_mem z)) this.1
      · exact z
    subst z
    refine ⟨by rw [List.take_length], rfl, ?_, fun _ => hP, fun _ => hW⟩
    rw [l_eq1 hD, hn, show pW t ++ 46 :: (pP t ++ pS t) = (pW t ++ [46] ++ pP t) ++ pS t by simp]
    exact List.drop_left' (by simp; omega)
theorem end_none {t : ByteArray} (h : pW t ++ pP t = []) : parseR t = (0, 30) := by
  unfold parseR
  rw [if_neg]
  rintro ⟨h1, -⟩
  exact h1 (List.append_eq_nil_iff.1 h).1
theorem end_long {t : ByteArray} (h : 19 < (pW t ++ pP t).length) : parseR t = (0, 30) := by
  unfold parseR
  rw [if_neg]
  rintro ⟨-, -, -, h1⟩
  rw [List.length_append] at h; omega
theorem end_no {t : ByteArray} (h : ∀ i, i < 12 → sufT i ≠ ⟨(pS t).toArray⟩) : parseR t = (0, 30) := by
  unfold parseR
  rw [if_neg]
  rintro ⟨-, -, h1, -⟩
  exact h1 (facR_none h)
theorem end_ok {t : ByteArray} {i : Nat} (hi : i < 12) (hs : sufT i = ⟨(pS t).toArray⟩) (hW : pW t ≠ []) (hD : pD t = true → pP t ≠ []) (hl : (pW t ++ pP t).length ≤ 19) : parseR t = timesT (numOf (pW t ++ pP t) * sufN i) (10 ^ (pP t).length) := by
  have e : pF t = sufN i := by unfold pF; rw [← hs, facR_of i hi]
  unfold parseR
  rw [if_pos ⟨hW, hD, by rw [e]; exact Nat.ne_of_gt (_root_.Go.Proofs.YtjegjpdeclgegaaDoor.sufN_pos i hi).1, by rw [List.length_append] at hl; exact hl⟩, e]
end Lg
end Go.Proofs.YtjegjpdeclgegaaDoor
end S3

section S4
namespace Go.Proofs.YtjegjpdeclgegaaDoor
open Go.RowKit Go.Lib
open Go.Sort (grow)
namespace Lg
theorem refDigit_yes (c : Nat) (h : 48 ≤ c ∧ c ≤ 57) (w : World) : Calls Tryd.prog 20 #[.int .u8 (c : Int)] w fun e w' => e = .returned (.bool true) ∧ w' = w := by
  have g : decide ((c : Int) ≥ 48) = true := decide_eq_true (by omega)
  have g2 : decide ((c : Int) ≤ 57) = true := decide_eq_true (by omega)
  go_enter Tryd.func20, Tryd.ntmps20
  go_wp2_with fail
  go_ret
  exact ⟨rfl, rfl⟩
theorem refDigit_no (c : Nat) (h : ¬ (48 ≤ c ∧ c ≤ 57)) (w : World) : Calls Tryd.prog 20 #[.int .u8 (c : Int)] w fun e w' => e = .returned (.bool false) ∧ w' = w := by
  by_cases h1 : 48 ≤ c
  · have g : decide ((c : Int) ≥ 48) = true := decide_eq_true (by omega)
    have g2 : decide ((c : Int) ≤ 57) = false := decide_eq_false (by omega)
    go_enter Tryd.func20, Tryd.ntmps20
    go_wp2_with fail
    go_ret
    exact ⟨rfl, rfl⟩
  · have g : decide ((c : Int) ≥ 48) = false := decide_eq_false (by omega)
    go_enter Tryd.func20, Tryd.ntmps20
    go_wp2_with fail
    go_ret
    exact ⟨rfl, rfl⟩
theorem at_lit (t : ByteArray) (k : Nat) (h : k < t.size) : t.data.toList[k]? = some (t[k]'h) := by
  rw [Array.getElem?_toList, Array.getElem?_eq_getElem (show k < t.data.size from h)]; rfl
theorem at_out (t : ByteArray) (k : Nat) (h : t.size ≤ k) : t.data.toList[k]? = none := by
  rw [Array.getElem?_toList, Array.getElem?_eq_none (show t.data.size ≤ k from h)]
theorem drop_ext (t : ByteArray) (n : Nat) : t.extract n t.size = ⟨(t.data.toList.drop n).toArray⟩ := by
  apply ByteArray.ext
  apply Array.toList_inj.1
  rw [Lib.extract_data]
  simp
  exact List.take_of_length_le (by rw [List.length_drop, Array.length_toList]; exact Nat.le_refl _)
theorem below_drewN (w : World) (n : Nat) : Below w.heap.size w (w.drewN n) := ⟨rfl, rfl, rfl, Nat.le_refl _, fun _ _ => rfl⟩
set_option maxHeartbeats 16000000 in
set_option maxRecDepth 100000 in
theorem refParse_any (t : ByteArray) (hs : t.size ≤ 1048576) (w : World) :
    Calls Tryd.prog 9 #[.string t] w fun e w' => e = .returned (.tuple #[.int .i64 (parseR t).1, .int .i64 (parseR t).2]) ∧ Below w.heap.size w w' := by
  obtain ⟨rv, re, hR⟩ : ∃ rv re, parseR t = (rv, re) := ⟨_, _, rfl⟩
  rw [hR]
  have HR := Lib.hid hR
  show Calls Tryd.prog 9 #[.string t] w fun e w' => e = .returned (.tuple #[.int .i64 rv, .int .i64 re]) ∧ Below w.heap.size w w'
  have BAD : Hid (parseR t = (0, 30) → rv = 0 ∧ re = 30) := Lib.hid fun h => by rw [HR.out] at h; injection h with h1 h2; exact ⟨h1, h2⟩
  have DY := Lib.hid refDigit_yes
  have DN := Lib.hid refDigit_no
  clear hR
  go_enter Tryd.func9, Tryd.ntmps9
  go_wp2_with fail
  go_loopg [4, 5, 6, 7] t.size (fun g s4 s5 s6 s7 wr => ∃ (n dots bh : Nat) (q : List UInt8) (da : Option Addr) (dn dc : Nat), g = t.size - n ∧ n ≤ t.size ∧ s4 = .int .i64 n ∧ s5 = .int .i64 dots ∧ s6 = .slice da dn dc ∧ s7 = .int .i64 bh ∧ Ps t n dots q bh ∧ OwnR kI w.heap.size wr (.slice da dn dc) (q.map dv) ∧ Below w.heap.size w wr)
  case atStart => exact ⟨0, 0, 0, [], none, 0, 0, rfl, Nat.zero_le _, rfl, rfl, rfl, rfl, ps_start t, OwnR.nil _ _ _, Below.refl _ _⟩
  case round =>
    obtain ⟨n, dots, bh, q, da, dn, dc, hg, hn, rfl, rfl, rfl, rfl, hp, ho, hb⟩ := hrel
    have hdl : dn = q.length := by obtain ⟨_, _, e⟩ := ho.slice; simp only [Value.slice.injEq] at e; rw [e.2.1, List.length_map]
    have R : Hid (gk = t.size - n ∧ Ps t n dots q bh ∧ OwnR kI w.heap.size wr (.slice da dn dc) (q.map dv) ∧ Below w.heap.size w wr ∧ dn = q.length) := Lib.hid ⟨hg, hp, ho, hb, hdl⟩
    have hbn : bh ≤ 1048576 := by have := (ps_len hp).2; omega
    have hqn : dn ≤ 1048576 := by have := (ps_len hp).1; omega
    clear hg hp ho hb hdl
    have hnb : n ≤ 1048576 := by omega
    by_cases hcont : ∃ c, t.data.toList[n]? = some c ∧ (Dg c ∨ c = 46)
    · obtain ⟨c0, hc0, hcd⟩ := hcont
      have hlt : n < t.size := by
        rcases Nat.lt_or_ge n t.size with z | z
        · exact z
        · rw [at_out t n z] at hc0; cases hc0
      have hlt' : (n : Int) < (t.size : Int) := by omega
      have ec : t[n]'hlt = c0 := by rw [at_lit t n hlt] at hc0; injection hc0
      obtain ⟨c, hc⟩ : ∃ c, c = c0.toNat := ⟨_, rfl⟩
      have fc : ((t[n]'hlt).toNat : Int) = (c : Int) := by rw [ec, hc]
      have C := Lib.hid (And.intro hc hc0)
      clear ec hc hc0
      by_cases hd : 48 ≤ c ∧ c ≤ 57
      · obtain ⟨y, hy⟩ : ∃ y, y = c - 48 := ⟨_, rfl⟩
        have w8 : IntKind.u8.wrap ((c : Int) - 48) = (y : Int) := by
          have : (c : Int) - 48 = (y : Int) := by omega
          rw [this]; unfold IntKind.wrap; simp [IntKind.bits, IntKind.signed]; omega
        have y9 : y ≤ 9 := by omega
        have g46 : ((c : Int) == 46) = false := by rw [beq_eq_false_iff_ne]; omega
        have DC := Lib.hid (DY.out c hd)
        have P2 : Hid (Ps t (n + 1) dots (q ++ [c0]) (bh + dots) ∧ dv c0 = y) := Lib.hid ⟨ps_digit R.out.2.1 C.out.2 (by unfold Dg; rw [← C.out.1]; exact hd), by unfold dv; rw [← C.out.1, hy]⟩
        have hdt : dots ≤ 1 := by rcases ps_dots R.out.2.1 with z | z <;> omega
        have LN : Hid (((q.map dv).length + 1) * kI.b ≤ 140737488355328) := Lib.hid (by
          rw [List.length_map, ← R.out.2.2.2.2]
          show (dn + 1) * 8 ≤ _
          omega)
        have WZ : Hid (w.heap.size ≤ wr.heap.size) := Lib.hid R.out.2.2.2.1.size
        clear hcd hd hy
        go_wp2_with (first | (go_at_call 20; refine (DC.out _).mono ?_; rintro e w5 ⟨rfl, rfl⟩) | (at_builtin; refine app_rowB okI (gg := w5.heap.size) rfl _ _ rfl rfl R.out.2.2.1 WZ.out y (by simp) rfl rfl LN.out ?_; intro v' w' h1 h2))
        obtain ⟨a2, c2, rfl⟩ := h1.slice
        have Z : Hid (OwnR kI w.heap.size w' (.slice a2 (q.map dv ++ [y]).length c2) ((q ++ [c0]).map dv) ∧ Below w.heap.size w w') := Lib.hid ⟨by rw [List.map_append, List.map_cons, List.map_nil, P2.out.2]; exact h1, R.out.2.2.2.1.trans (grown_belowR h2 R.out.2.2.1 WZ.out)⟩
        clear h1 h2
        go_wp2_with fail
        go_roundg (t.size - (n + 1))
        case measure => have := R.out.1; omega
        case rel => exact ⟨n + 1, dots, bh + dots, q ++ [c0], a2, _, c2, rfl, by omega, by first | rfl | (congr 1; omega) | (congr 1; unfold wrap64; omega), rfl, rfl, by first | rfl | (congr 1; omega) | (congr 1; unfold wrap64; omega), P2.out.1, Z.out.1, Z.out.2⟩
      · have c46 : c0 = 46 := by
          rcases hcd with z | z
          · exact absurd (by unfold Dg at z; rw [← C.out.1] at z; exact z) hd
          · exact z
        have ec46 : c = 46 := by rw [C.out.1, c46]; rfl
        subst ec46
        have C46 : Hid (t.data.toList[n]? = some 46) := Lib.hid (by rw [← c46]; exact C.out.2)
        have DC := Lib.hid (DN.out 46 (by omega))
        clear hcd hd c46
        rcases ps_dots R.out.2.1 with hz | hz
        · subst hz
          by_cases h0 : n = 0
          · have g0 : ((n : Int) == 0) = true := by rw [beq_iff_eq]; omega
            obtain ⟨e1, e2⟩ := BAD.out (ps_dot_no R.out.2.1 C46.out (Or.inl h0))
            subst e1 e2
            clear h0
            go_wp2_with (first | (go_at_call 20; refine (DC.out _).mono ?_; rintro e w5 ⟨rfl, rfl⟩))
            go_ret2
            exact ⟨rfl, R.out.2.2.2.1⟩
          · have g0 : ((n : Int) == 0) = false := by rw [beq_eq_false_iff_ne]; omega
            by_cases h1 : t.size ≤ n + 1
            · have g1 : decide ((n : Int) + 1 ≥ (t.size : Int)) = true := decide_eq_true (by omega)
              obtain ⟨e1, e2⟩ := BAD.out (ps_dot_no R.out.2.1 C46.out (Or.inr (fun x hx => by rw [at_out t (n + 1) h1] at hx; cases hx)))
              subst e1 e2
              clear h0
              go_wp2_with (first | (go_at_call 20; refine (DC.out _).mono ?_; rintro e w5 ⟨rfl, rfl⟩))
              go_ret2
              exact ⟨rfl, R.out.2.2.2.1⟩
            · have g1 : decide ((n : Int) + 1 ≥ (t.size : Int)) = false := decide_eq_false (by omega)
              obtain ⟨m, hm⟩ : ∃ m, m = n + 1 := ⟨_, rfl⟩
              have hml : m < t.size := by omega
              have hml' : (m : Int) < (t.size : Int) := by omega
              have em : (n : Int) + 1 = (m : Int) := by omega
              rw [em] at g1
              obtain ⟨d0, hd0⟩ : ∃ d0, d0 = t[m]'hml := ⟨_, rfl⟩
              obtain ⟨d, hdd⟩ : ∃ d, d = d0.toNat := ⟨_, rfl⟩
              have fd : ((t[m]'hml).toNat : Int) = (d : Int) := by rw [← hd0, hdd]
              have E : Hid (t.data.toList[n + 1]? = some d0 ∧ d = d0.toNat ∧ m = n + 1) := Lib.hid ⟨by rw [← hm, at_lit t m hml, hd0], hdd, hm⟩
              have H0 := Lib.hid h0
              clear hd0 hdd hm h0 h1
              by_cases hd : 48 ≤ d ∧ d ≤ 57
              · have DD := Lib.hid (DY.out d hd)
                have P2 : Hid (Ps t (n + 1) 1 q bh) := Lib.hid (ps_dot_ok R.out.2.1 C46.out H0.out E.out.1 (by unfold Dg; rw [← E.out.2.1]; exact hd))
                clear hd
                have M1 : True := trivial
                go_wp2_with (first | (go_at_call 20; clear M1; refine (DC.out _).mono ?_; rintro e w5 ⟨rfl, rfl⟩) | (go_at_call 20; refine (DD.out _).mono ?_; rintro e w6 ⟨rfl, rfl⟩))
                go_roundg (t.size - (n + 1))
                case measure => have := R.out.1; omega
                case rel => exact ⟨n + 1, 1, bh, q, da, dn, dc, rfl, by have := E.out.2.2; omega, by have := E.out.2.2; first | rfl | (congr 1; omega), rfl, rfl, rfl, P2.out, R.out.2.2.1, R.out.2.2.2.1⟩
              · have DD := Lib.hid (DN.out d hd)
                obtain ⟨e1, e2⟩ := BAD.out (ps_dot_no R.out.2.1 C46.out (Or.inr (fun x hx hD => by
                  rw [E.out.1] at hx
                  injection hx with hx
                  subst hx
                  unfold Dg at hD
                  rw [← E.out.2.1] at hD
                  exact hd hD)))
                subst e1 e2
                clear hd
                have M1 : True := trivial
                go_wp2_with (first | (go_at_call 20; clear M1; refine (DC.out _).mono ?_; rintro e w5 ⟨rfl, rfl⟩) | (go_at_call 20; refine (DD.out _).mono ?_; rintro e w6 ⟨rfl, rfl⟩))
                go_ret2
                exact ⟨rfl, R.out.2.2.2.1⟩
        · subst hz
          obtain ⟨e1, e2⟩ := BAD.out (ps_dot1 R.out.2.1 C46.out)
          subst e1 e2
          by_cases h0 : n = 0
          · have g0 : ((n : Int) == 0) = true := by rw [beq_iff_eq]; omega
            clear h0
            go_wp2_with (first | (go_at_call 20; refine (DC.out _).mono ?_; rintro e w5 ⟨rfl, rfl⟩))
            go_ret2
            exact ⟨rfl, R.out.2.2.2.1⟩
          · have g0 : ((n : Int) == 0) = false := by rw [beq_eq_false_iff_ne]; omega
            clear h0
            go_wp2_with (first | (go_at_call 20; refine (DC.out _).mono ?_; rintro e w5 ⟨rfl, rfl⟩))
            go_ret2
            exact ⟨rfl, R.out.2.2.2.1⟩
    · obtain ⟨X, hX⟩ : ∃ X, X = t.extract n t.size := ⟨_, rfl⟩
      have EN := Lib.hid (ps_end R.out.2.1 (fun c hc => ⟨fun z => hcont ⟨c, hc, Or.inl z⟩, fun z => hcont ⟨c, hc, Or.inr z⟩⟩))
      have HX : Hid (X = t.extract n t.size ∧ X = ⟨(pS t).toArray⟩) := Lib.hid ⟨hX, by rw [hX, drop_ext, EN.out.2.2.1]⟩
      have key : t.size ≤ n ∨ ∃ h : n < t.size, ¬ (48 ≤ (t[n]'h).toNat ∧ (t[n]'h).toNat ≤ 57) ∧ (t[n]'h).toNat ≠ 46 := by
        rcases Nat.lt_or_ge n t.size with z | z
        · refine Or.inr ⟨z, fun h => hcont ⟨_, at_lit t n z, Or.inl h⟩, fun h => hcont ⟨_, at_lit t n z, Or.inr ?_⟩⟩
          exact UInt8.toNat_inj.1 h
        · exact Or.inl z
      have hnI : (n : Int) ≤ (t.size : Int) := by omega
      clear hcont hX
      have QQ : Hid (dn = (pW t ++ pP t).length) := Lib.hid (by rw [R.out.2.2.2.2, EN.out.1])
      obtain ⟨c, hc, DC, glt⟩ : ∃ c : Nat, (∀ h : n < t.size, (t[n]'h).toNat = c ∧ ¬ (48 ≤ c ∧ c ≤ 57) ∧ c ≠ 46) ∧ Hid (∀ W, Calls Tryd.prog 20 #[.int .u8 (c : Int)] W fun e w' => e = .returned (.bool false) ∧ w' = W) ∧ True := by
        rcases key with z | ⟨z, h1, h2⟩
        · exact ⟨0, fun h => by omega, Lib.hid (DN.out 0 (by omega)), trivial⟩
        · exact ⟨_, fun _ => ⟨rfl, h1, h2⟩, Lib.hid (DN.out _ h1), trivial⟩
      have g46 : ∀ h : n < t.size, ((c : Int) == 46) = false := fun h => by have := (hc h).2.2; rw [beq_eq_false_iff_ne]; omega
      by_cases hm0 : dn = 0
      · obtain ⟨e1, e2⟩ := BAD.out (end_none (List.eq_nil_of_length_eq_zero (by rw [← QQ.out]; exact hm0)))
        subst e1 e2
        have gd : decide ((dn : Int) < 1) = true := decide_eq_true (by omega)
        clear hm0
        rcases Nat.lt_or_ge n t.size with hlt | hlt
        · have hlt' : (n : Int) < (t.size : Int) := by omega
          have fc : ((t[n]'hlt).toNat : Int) = (c : Int) := by rw [(hc hlt).1]
          have g7 := g46 hlt
          clear hc g46
          go_wp2_with (first | (go_at_call 20; refine (DC.out _).mono ?_; rintro e w5 ⟨rfl, rfl⟩))
          go_ret2
          exact ⟨rfl, R.out.2.2.2.1⟩
        · have hlt' : decide ((n : Int) < (t.size : Int)) = false := decide_eq_false (by omega)
          clear hc g46
          go_wp2_with fail
          go_ret2
          exact ⟨rfl, R.out.2.2.2.1⟩
      · have gd : decide ((dn : Int) < 1) = false := decide_eq_false (by omega)
        by_cases hm1 : 19 < dn
        · obtain ⟨e1, e2⟩ := BAD.out (end_long (by rw [← QQ.out]; exact hm1))
          subst e1 e2
          have gd2 : decide ((dn : Int) > 19) = true := decide_eq_true (by omega)
          clear hm0 hm1
          rcases Nat.lt_or_ge n t.size with hlt | hlt
          · have hlt' : (n : Int) < (t.size : Int) := by omega
            have fc : ((t[n]'hlt).toNat : Int) = (c : Int) := by rw [(hc hlt).1]
            have g7 := g46 hlt
            clear hc g46
            go_wp2_with (first | (go_at_call 20; refine (DC.out _).mono ?_; rintro e w5 ⟨rfl, rfl⟩))
            go_ret2
            exact ⟨rfl, R.out.2.2.2.1⟩
          · have hlt' : decide ((n : Int) < (t.size : Int)) = false := decide_eq_false (by omega)
            clear hc g46
            go_wp2_with fail
            go_ret2
            exact ⟨rfl, R.out.2.2.2.1⟩
        · have gd2 : decide ((dn : Int) > 19) = false := decide_eq_false (by omega)
          have LL : Hid (dn ≤ 19 ∧ q ≠ []) := Lib.hid ⟨by omega, fun e => hm0 (by rw [R.out.2.2.2.2, e]; rfl)⟩
          have TAIL : Hid (∀ i w9 xa xn xc, i < 12 → sufT i = X → Row kI w9 (.slice da dn dc) (q.map dv) → Row kI w9 (.slice xa xn xc) (dg (sufN i)) → Calls Tryd.prog 21 #[.slice da dn dc, .int .i64 (bh : Int), .agg #[.slice xa xn xc]] w9 fun e w' => e = .returned (.tuple #[.int .i64 rv, .int .i64 re]) ∧ Below w9.heap.size w9 w') := Lib.hid fun i w9 xa xn xc hi hsu h1 h2 => by
            have eR := end_ok hi (hsu.trans HX.out.2) (EN.out.2.2.2.2 LL.out.2) EN.out.2.2.2.1 (by rw [← QQ.out]; exact LL.out.1)
            rw [HR.out] at eR
            refine parsed_any da dn dc (q.map dv) bh (sufN i) xa xn xc (fun y hy => ?_) (by rw [List.length_map, ← R.out.2.2.2.2]; exact LL.out.1) ?_ (sufN_pos i) (sufN_lt i) (ceilT (vl (q.map dv).reverse * sufN i) (10 ^ bh)) rv re rfl ?_ w9 h1 h2
            · obtain ⟨b, hb, rfl⟩ := List.mem_map.1 hy
              rw [EN.out.1] at hb
              rcases List.mem_append.1 hb with z | z
              · have := pW_dg t b z; unfold Dg at this; unfold dv; omega
              · have := pP_dg t b z; unfold Dg at this; unfold dv; omega
            · rw [EN.out.2.1]
              have := LL.out.1
              rw [QQ.out, List.length_append] at this
              omega
            · rw [vl_num, EN.out.1, EN.out.2.1]
              unfold timesT at eR
              split at eR
              · rename_i z
                injection eR with e1 e2
                exact Or.inl ⟨z, e1, e2⟩
              · rename_i z
                injection eR with e1 e2
                exact Or.inr ⟨by omega, e1, e2⟩
          have NONE : Hid ((∀ i, i < 12 → sufT i ≠ X) → rv = 0 ∧ re = 30) := Lib.hid fun h => BAD.out (end_no (fun i hi e => h i hi (e.trans HX.out.2.symm)))
          clear hm0 hm1
          rcases Nat.lt_or_ge n t.size with hlt | hlt
          · have hlt' : (n : Int) < (t.size : Int) := by omega
            have fc : ((t[n]'hlt).toNat : Int) = (c : Int) := by rw [(hc hlt).1]
            have g7 := g46 hlt
            clear hc g46
            go_wp2_with (first | (go_at_call 20; refine (DC.out _).mono ?_; rintro e w5 ⟨rfl, rfl⟩))
            refine (suffixes_any w5).mono ?_
            rintro e w1 ⟨la, ln, lc, xs, rfl, hsf, hb1⟩
            have hl : ln = 12 := by obtain ⟨_, _, e⟩ := hsf.own.slice; simp only [Value.slice.injEq] at e; rw [e.2.1, hsf.len]
            subst hl
            obtain ⟨gl, ela, -, -, -⟩ := hsf.own.someOf (by rw [hsf.len]; decide)
            subst ela
            have S1 : Hid (Sf w5.heap.size w1 (.slice (some ⟨gl, 0, none⟩) 12 lc) 12 xs ∧ Below w5.heap.size w5 w1) := Lib.hid ⟨hsf, hb1⟩
            clear hsf hb1
            go_wp2_with fail
            go_loopg [9] 12 (fun g si wy => ∃ (i k : Nat), g = 12 - i ∧ i ≤ 12 ∧ si = .int .i64 i ∧ (∀ j, j < i → sufT j ≠ X) ∧ wy = w1.drewN k)
            case atStart => exact ⟨0, 0, rfl, by decide, rfl, fun j hj => by omega, rfl⟩
            case round =>
              obtain ⟨i, k, hg, hi, rfl, hno, rfl⟩ := hrel
              have G : Hid (gk = 12 - i ∧ ∀ j, j < i → sufT j ≠ X) := Lib.hid ⟨hg, hno⟩
              clear hg hno
              by_cases hlt2 : i < 12
              · have hlt2' : (i : Int) < 12 := by omega
                obtain ⟨c0, c1⟩ := S1.out.1.at i hlt2
                obtain ⟨⟨xt, xa, xn, xc⟩, hx⟩ : ∃ x, x = xs.getD i kS.z := ⟨_, rfl⟩
                rw [← hx] at c1
                obtain ⟨Tx, hT⟩ : ∃ T, T = sufT i := ⟨_, rfl⟩
                rw [← hT] at c0
                have HT := Lib.hid hT
                have RX : Hid (Row kI (w1.drewN k) (.slice xa xn xc) (dg (sufN i))) := Lib.hid (by have q := S1.out.1.row i hlt2; rw [← hx] at q; exact q.below (below_drewN w1 k))
                have eX := HX.out.1
                clear hx hT
                by_cases hcmp : Tx = X
                · have ge : (Tx.toList == (t.extract n t.size).toList) = true := by rw [hcmp, ← eX]; exact beq_self_eq_true _
                  have PA : Hid (∀ K, Calls Tryd.prog 21 #[.slice da dn dc, .int .i64 (bh : Int), .agg #[.slice xa xn xc]] (w1.drewN K) fun e w' => e = .returned (.tuple #[.int .i64 rv, .int .i64 re]) ∧ Below (w1.drewN K).heap.size (w1.drewN K) w') := Lib.hid fun K => TAIL.out i _ xa xn xc hlt2 (HT.out.symm.trans hcmp) (((R.out.2.2.1.row okI).below S1.out.2).below (below_drewN w1 K)) ((by have q := RX.out; exact q : Row kI (w1.drewN k) _ _).below (show Below (w1.drewN k).heap.size (w1.drewN k) (w1.drewN K) from ⟨rfl, rfl, rfl, Nat.le_refl _, fun _ _ => rfl⟩))
                  have d1 : ∀ K, (w1.drewN K).cell? ⟨gl, i * 2 + 1, none⟩ = some (.slice xa xn xc) := fun K => c1
                  have d0 : ∀ K M, ((w1.drewN K).drewN M).cell? ⟨gl, i * 2, none⟩ = some (.string Tx) := fun K M => c0
                  have d2 : ∀ K M, ((w1.drewN K).drewN M).cell? ⟨gl, i * 2 + 1, none⟩ = some (.slice xa xn xc) := fun K M => c1
                  clear hcmp eX
                  go_wp2_with fail
                  go_quiet (fail)
                  go_wp2_with fail
                  refine (PA.out _).mono ?_
                  rintro e w2 ⟨rfl, hb2⟩
                  have B2 : Hid (Below w.heap.size w w2) := Lib.hid ((R.out.2.2.2.1.trans (S1.out.2.mono R.out.2.2.2.1.size)).trans (((below_drewN w1 _).trans hb2).mono (R.out.2.2.2.1.trans (S1.out.2.mono R.out.2.2.2.1.size)).size))
                  clear hb2
                  go_wp2_with fail
                  go_ret2
                  exact ⟨rfl, B2.out⟩
                · have ge : (Tx.toList == (t.extract n t.size).toList) = false := by rw [← eX, ByteArray.toList_eq, ByteArray.toList_eq]; exact beq_eq_false_iff_ne.2 (fun e => hcmp (by cases Tx; cases X; simp only at e; simp only [ByteArray.mk.injEq]; exact Array.toList_inj.1 e))
                  have NX : Hid (∀ j, j < i + 1 → sufT j ≠ X) := Lib.hid fun j hj => by
                    by_cases z : j = i
                    · rw [z, ← HT.out]; exact hcmp
                    · exact G.out.2 j (by omega)
                  have d0 : ∀ K M, ((w1.drewN K).drewN M).cell? ⟨gl, i * 2, none⟩ = some (.string Tx) := fun K M => c0
                  clear hcmp eX c1
                  go_wp2_with fail
                  go_quiet (fail)
                  go_wp2_with fail
                  go_roundg (12 - (i + 1))
                  case measure => have := G.out.1; omega
                  case rel => exact ⟨i + 1, _, rfl, by omega, by first | rfl | (congr 1; omega), NX.out, rfl⟩
              · obtain rfl : i = 12 := by omega
                obtain ⟨e1, e2⟩ := NONE.out G.out.2
                subst e1 e2
                have B2 : Hid (Below w.heap.size w (w1.drewN k)) := Lib.hid ((R.out.2.2.2.1.trans (S1.out.2.mono R.out.2.2.2.1.size)).trans ((below_drewN w1 k).mono (R.out.2.2.2.1.trans (S1.out.2.mono R.out.2.2.2.1.size)).size))
                go_wp2_with fail
                go_ret2
                exact ⟨rfl, B2.out⟩
          · have hlt' : decide ((n : Int) < (t.size : Int)) = false := decide_eq_false (by omega)
            clear hc g46
            obtain ⟨w5, hw5⟩ : ∃ W, W = wr := ⟨_, rfl⟩
            rw [← hw5] at R ⊢
            clear hw5
            go_wp2_with fail
            refine (suffixes_any w5).mono ?_
            rintro e w1 ⟨la, ln, lc, xs, rfl, hsf, hb1⟩
            have hl : ln = 12 := by obtain ⟨_, _, e⟩ := hsf.own.slice; simp only [Value.slice.injEq] at e; rw [e.2.1, hsf.len]
            subst hl
            obtain ⟨gl, ela, -, -, -⟩ := hsf.own.someOf (by rw [hsf.len]; decide)
            subst ela
            have S1 : Hid (Sf w5.heap.size w1 (.slice (some ⟨gl, 0, none⟩) 12 lc) 12 xs ∧ Below w5.heap.size w5 w1) := Lib.hid ⟨hsf, hb1⟩
            clear hsf hb1
            go_wp2_with fail
            go_loopg [9] 12 (fun g si wy => ∃ (i k : Nat), g = 12 - i ∧ i ≤ 12 ∧ si = .int .i64 i ∧ (∀ j, j < i → sufT j ≠ X) ∧ wy = w1.drewN k)
            case atStart => exact ⟨0, 0, rfl, by decide, rfl, fun j hj => by omega, rfl⟩
            case round =>
              obtain ⟨i, k, hg, hi, rfl, hno, rfl⟩ := hrel
              have G : Hid (gk = 12 - i ∧ ∀ j, j < i → sufT j ≠ X) := Lib.hid ⟨hg, hno⟩
              clear hg hno
              by_cases hlt2 : i < 12
              · have hlt2' : (i : Int) < 12 := by omega
                obtain ⟨c0, c1⟩ := S1.out.1.at i hlt2
                obtain ⟨⟨xt, xa, xn, xc⟩, hx⟩ : ∃ x, x = xs.getD i kS.z := ⟨_, rfl⟩
                rw [← hx] at c1
                obtain ⟨Tx, hT⟩ : ∃ T, T = sufT i := ⟨_, rfl⟩
                rw [← hT] at c0
                have HT := Lib.hid hT
                have RX : Hid (Row kI (w1.drewN k) (.slice xa xn xc) (dg (sufN i))) := Lib.hid (by have q := S1.out.1.row i hlt2; rw [← hx] at q; exact q.below (below_drewN w1 k))
                have eX := HX.out.1
                clear hx hT
                by_cases hcmp : Tx = X
                · have ge : (Tx.toList == (t.extract n t.size).toList) = true := by rw [hcmp, ← eX]; exact beq_self_eq_true _
                  have PA : Hid (∀ K, Calls Tryd.prog 21 #[.slice da dn dc, .int .i64 (bh : Int), .agg #[.slice xa xn xc]] (w1.drewN K) fun e w' => e = .returned (.tuple #[.int .i64 rv, .int .i64 re]) ∧ Below (w1.drewN K).heap.size (w1.drewN K) w') := Lib.hid fun K => TAIL.out i _ xa xn xc hlt2 (HT.out.symm.trans hcmp) (((R.out.2.2.1.row okI).below S1.out.2).below (below_drewN w1 K)) ((by have q := RX.out; exact q : Row kI (w1.drewN k) _ _).below (show Below (w1.drewN k).heap.size (w1.drewN k) (w1.drewN K) from ⟨rfl, rfl, rfl, Nat.le_refl _, fun _ _ => rfl⟩))
                  have d1 : ∀ K, (w1.drewN K).cell? ⟨gl, i * 2 + 1, none⟩ = some (.slice xa xn xc) := fun K => c1
                  have d0 : ∀ K M, ((w1.drewN K).drewN M).cell? ⟨gl, i * 2, none⟩ = some (.string Tx) := fun K M => c0
                  have d2 : ∀ K M, ((w1.drewN K).drewN M).cell? ⟨gl, i * 2 + 1, none⟩ = some (.slice xa xn xc) := fun K M => c1
                  clear hcmp eX
                  go_wp2_with fail
                  go_quiet (fail)
                  go_wp2_with fail
                  refine (PA.out _).mono ?_
                  rintro e w2 ⟨rfl, hb2⟩
                  have B2 : Hid (Below w.heap.size w w2) := Lib.hid ((R.out.2.2.2.1.trans (S1.out.2.mono R.out.2.2.2.1.size)).trans (((below_drewN w1 _).trans hb2).mono (R.out.2.2.2.1.trans (S1.out.2.mono R.out.2.2.2.1.size)).size))
                  clear hb2
                  go_wp2_with fail
                  go_ret2
                  exact ⟨rfl, B2.out⟩
                · have ge : (Tx.toList == (t.extract n t.size).toList) = false := by rw [← eX, ByteArray.toList_eq, ByteArray.toList_eq]; exact beq_eq_false_iff_ne.2 (fun e => hcmp (by cases Tx; cases X; simp only at e; simp only [ByteArray.mk.injEq]; exact Array.toList_inj.1 e))
                  have NX : Hid (∀ j, j < i + 1 → sufT j ≠ X) := Lib.hid fun j hj => by
                    by_cases z : j = i
                    · rw [z, ← HT.out]; exact hcmp
                    · exact G.out.2 j (by omega)
                  have d0 : ∀ K M, ((w1.drewN K).drewN M).cell? ⟨gl, i * 2, none⟩ = some (.string Tx) := fun K M => c0
                  clear hcmp eX c1
                  go_wp2_with fail
                  go_quiet (fail)
                  go_wp2_with fail
                  go_roundg (12 - (i + 1))
                  case measure => have := G.out.1; omega
                  case rel => exact ⟨i + 1, _, rfl, by omega, by first | rfl | (congr 1; omega), NX.out, rfl⟩
              · obtain rfl : i = 12 := by omega
                obtain ⟨e1, e2⟩ := NONE.out G.out.2
                subst e1 e2
                have B2 : Hid (Below w.heap.size w (w1.drewN k)) := Lib.hid ((R.out.2.2.2.1.trans (S1.out.2.mono R.out.2.2.2.1.size)).trans ((below_drewN w1 k).mono (R.out.2.2.2.1.trans (S1.out.2.mono R.out.2.2.2.1.size)).size))
                go_wp2_with fail
                go_ret2
                exact ⟨rfl, B2.out⟩
end Lg
end Go.Proofs.YtjegjpdeclgegaaDoor
end S4

section S5
namespace Go.Proofs.YtjegjpdeclgegaaDoor
open Go.RowKit Go.Lib
open Go.Sort (grow)
set_option maxHeartbeats 8000000 in
set_option maxRecDepth 100000 in
theorem quantParses_walk (t : ByteArray) (w : World) (G : Glob w) (ht : t.size ≤ 1048576) :
    Calls Tryd.prog 4 #[.string t] w fun e w' => e = .returned (.bool true) ∧ Below w.heap.size w w' := by
  have K := Lib.hid (known_ok w G)
  obtain ⟨x, hx⟩ : ∃ x, x = (parseR t).1 := ⟨_, rfl⟩
  obtain ⟨y, hy⟩ : ∃ y, y = (parseR t).2 := ⟨_, rfl⟩
  have PA : Hid (∀ W, Below w.heap.size w W → Calls Tryd.prog 8 #[.string t] W fun e w' => e = .returned (.tuple #[.int .i64 x, .int .i64 y]) ∧ Below W.heap.size W w') := Lib.hid fun W h => by rw [hx, hy]; exact parse_any t (by omega) W (G.below h).1
  have PB : Hid (∀ W, Calls Tryd.prog 9 #[.string t] W fun e w' => e = .returned (.tuple #[.int .i64 x, .int .i64 y]) ∧ Below W.heap.size W w') := Lib.hid fun W => by rw [hx, hy]; exact Lg.refParse_any t ht W
  clear hx hy ht G
  go_enter Tryd.func4, Tryd.ntmps4
  go_wp2_with fail
  refine K.out.mono ?_
  rintro e w1 ⟨rfl, hb⟩
  have D1 := Lib.hid hb
  clear hb
  go_wp2_with fail
  refine (PA.out w1 D1.out).mono ?_
  rintro e w2 ⟨rfl, hb⟩
  have D2 := Lib.hid (D1.out.trans (hb.mono D1.out.size))
  clear hb D1
  go_wp2_with fail
  refine (PB.out w2).mono ?_
  rintro e w3 ⟨rfl, hb⟩
  have D3 := Lib.hid (D2.out.trans (hb.mono D2.out.size))
  clear hb D2
  go_wp2_with fail
  go_ret
  exact ⟨by first | rfl | simp, D3.out⟩
end Go.Proofs.YtjegjpdeclgegaaDoor
end S5
