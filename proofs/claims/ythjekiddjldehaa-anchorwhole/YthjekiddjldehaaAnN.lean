/-
  What AnchorCounts holds.
-/
import Derived.Test.YthjekiddjldehaaAnT
import Derived.Test.YthjekiddjldehaaAuC
import Derived.Test.YthjekiddjldehaaAnG
namespace Go.Proofs.Ythjekiddjldehaa
open Go.RowKit Go.Maps
theorem dec_sum {c : List UInt8} (hl : c.length = 512) (h : ¬ SumOk c) : decR c = (zeroS, 2) := by
  unfold decR
  rw [if_neg (by rw [hl]; simp), if_neg]
  rintro ⟨_, h2⟩
  exact h (by rw [← h2]; exact lay_ok _)
theorem flip_bad (s : Sup) (k : Nat) (hk : k < 512) : decR ((layA s).set k (tuB ((layA s).getD k 0) 0)) = (zeroS, 2) := by
  refine dec_sum (by rw [List.length_set]; exact layA_length s) ?_
  have h := (Tn.start (layA s) (8 * k) (layA_length s)).turn (i := 0) (by decide) (by omega) (Or.inl rfl)
  rw [Nat.add_zero, show 8 * k / 8 = k by omega, show 8 * k % 8 = 0 by omega] at h
  exact h.told (by decide) (lay_ok s)
theorem own_heap {B : Nat} {w : World} {g n : Nat} {l : List UInt8} (h : Own B w (.slice (some ⟨g, 0, none⟩) n n) l) (hn : l.length = n) (h0 : 0 < n) : w.heap[g]? = some (.cells (cells8 l).toArray 5 (0, 0)) := by
  unfold Own at h
  obtain ⟨_, ⟨hv, hq⟩ | ⟨g', cap', cur, hv, hb, hg, hq, hm, hs, ht⟩⟩ := h
  · omega
  · simp only [Value.slice.injEq, Option.some.injEq, Addr.mk.injEq, and_true] at hv
    obtain ⟨rfl, e2, rfl⟩ := hv
    rw [hg]
    congr 2
    apply Array.ext'
    rw [← ht, Nat.mul_one, List.take_of_length_le]
    rw [Array.length_toList, hs]
    omega
theorem vd_of {s : Sup} {n : Int} (h : vaB s n = true) : Vd s := (vd_iff s).1 (by rw [(va_gen h).2]; exact h)
/-- A device, two boxes, two rows of bytes. -/
structure Ct (w W : World) (d mb mp : Nat) (ds : DS) (ga gb gp gq : Nat) (x y : Sup) (p q : List UInt8) : Prop where
  dv : Dv w.heap.size W d mb mp (.slice none 0 0) ds
  a : W.heap[ga]? = some (.cells x.arr 25 (0, 0))
  b : W.heap[gb]? = some (.cells y.arr 25 (0, 0))
  rp : W.heap[gp]? = some (.cells (cells8 p).toArray 5 (0, 0))
  rq : W.heap[gq]? = some (.cells (cells8 q).toArray 5 (0, 0))
  pl : p.length = 512
  ql : q.length = 512
  ne : gp ≠ gq ∧ w.heap.size ≤ gp ∧ w.heap.size ≤ gq
  bl : Below w.heap.size w W
variable {w W W' : World} {d mb mp : Nat} {ds : DS} {ga gb gp gq : Nat} {x y : Sup} {p q : List UInt8}
theorem Ct.below (h : Ct w W d mb mp ds ga gb gp gq x y p q) (hb : Below W.heap.size W W') : Ct w W' d mb mp ds ga gb gp gq x y p q :=
  ⟨h.dv.below hb, by rw [hb.block _ (lt_of_heap h.a)]; exact h.a, by rw [hb.block _ (lt_of_heap h.b)]; exact h.b, by rw [hb.block _ (lt_of_heap h.rp)]; exact h.rp, by rw [hb.block _ (lt_of_heap h.rq)]; exact h.rq, h.pl, h.ql, h.ne, h.bl.trans (hb.mono h.bl.size)⟩
theorem byte_foot {g : Nat} {l : List UInt8} {B : Nat} {cv : Value} (h : Dv B W d mb mp cv ds) (hg : W.heap[g]? = some (.cells (cells8 l).toArray 5 (0, 0))) : ¬ Foot d mb mp cv g :=
  foot_ty h hg (by decide) (by decide) (by decide)
theorem row_ne {g k : Nat} {s : Sup} {l : List UInt8} (h1 : W.heap[k]? = some (.cells s.arr 25 (0, 0))) (h2 : W.heap[g]? = some (.cells (cells8 l).toArray 5 (0, 0))) : k ≠ g := by
  rintro rfl
  rw [h1] at h2
  simp at h2
theorem set8 (w : World) (g k : Nat) (l : List UInt8) (c : UInt8) (h : w.heap[g]? = some (.cells (cells8 l).toArray 5 (0, 0))) : (w.setCell ⟨g, k, none⟩ (.int .u8 (c8 c))).heap[g]? = some (.cells (cells8 (l.set k c)).toArray 5 (0, 0)) := by
  rw [heap_setCell_same _ _ _ _ _ _ h]
  congr 2
  apply Array.ext'
  rw [Array.toList_setIfInBounds]
  unfold cells8
  rw [List.map_set]
theorem Ct.flipP (h : Ct w W d mb mp ds ga gb gp gq x y p q) (k : Nat) (c : UInt8) : Ct w (W.setCell ⟨gp, k, none⟩ (.int .u8 (c8 c))) d mb mp ds ga gb gp gq x y (p.set k c) q := by
  have hk := kept_set (F := fun z => z = gp) W ⟨gp, k, none⟩ (.int .u8 (c8 c)) rfl
  refine ⟨h.dv.kept hk (fun z hz e => byte_foot h.dv h.rp (e ▸ hz)), by rw [hk.block _ (lt_of_heap h.a) (row_ne h.a h.rp)]; exact h.a, by rw [hk.block _ (lt_of_heap h.b) (row_ne h.b h.rp)]; exact h.b, set8 _ _ _ _ _ h.rp, by rw [hk.block _ (lt_of_heap h.rq) h.ne.1.symm]; exact h.rq, by rw [List.length_set]; exact h.pl, h.ql, h.ne, h.bl.trans (hk.below h.bl.size (fun z hz => by rw [hz]; exact h.ne.2.1))⟩
theorem Ct.flipQ (h : Ct w W d mb mp ds ga gb gp gq x y p q) (k : Nat) (c : UInt8) : Ct w (W.setCell ⟨gq, k, none⟩ (.int .u8 (c8 c))) d mb mp ds ga gb gp gq x y p (q.set k c) := by
  have hk := kept_set (F := fun z => z = gq) W ⟨gq, k, none⟩ (.int .u8 (c8 c)) rfl
  refine ⟨h.dv.kept hk (fun z hz e => byte_foot h.dv h.rq (e ▸ hz)), by rw [hk.block _ (lt_of_heap h.a) (row_ne h.a h.rq)]; exact h.a, by rw [hk.block _ (lt_of_heap h.b) (row_ne h.b h.rq)]; exact h.b, by rw [hk.block _ (lt_of_heap h.rp) h.ne.1]; exact h.rp, set8 _ _ _ _ _ h.rq, h.pl, by rw [List.length_set]; exact h.ql, h.ne, h.bl.trans (hk.below h.bl.size (fun z hz => by rw [hz]; exact h.ne.2.2))⟩
theorem Ct.dev {ds' : DS} {G : Nat → Prop} (h : Ct w W d mb mp ds ga gb gp gq x y p q) (hd : Dv w.heap.size W' d mb mp (.slice none 0 0) ds') (hk : Kept G W W') (hG : ∀ k, G k → Foot d mb mp (.slice none 0 0) k) : Ct w W' d mb mp ds' ga gb gp gq x y p q :=
  ⟨hd, by rw [hk.block _ (lt_of_heap h.a) (fun e => sup_foot h.dv h.a (hG _ e))]; exact h.a, by rw [hk.block _ (lt_of_heap h.b) (fun e => sup_foot h.dv h.b (hG _ e))]; exact h.b, by rw [hk.block _ (lt_of_heap h.rp) (fun e => byte_foot h.dv h.rp (hG _ e))]; exact h.rp, by rw [hk.block _ (lt_of_heap h.rq) (fun e => byte_foot h.dv h.rq (hG _ e))]; exact h.rq, h.pl, h.ql, h.ne, h.bl.trans (hk.below h.bl.size (fun k e => (h.dv.foot_lt k (hG k e)).1))⟩
theorem Ct.bytesP (h : Ct w W d mb mp ds ga gb gp gq x y p q) : Bytes W (.slice (some ⟨gp, 0, none⟩) 512 512) p := (own_of (B := w.heap.size) h.rp h.ne.2.1 h.pl (by decide)).bytes
theorem Ct.bytesQ (h : Ct w W d mb mp ds ga gb gp gq x y p q) : Bytes W (.slice (some ⟨gq, 0, none⟩) 512 512) q := (own_of (B := w.heap.size) h.rq h.ne.2.2 h.ql (by decide)).bytes
theorem Ct.cellP (h : Ct w W d mb mp ds ga gb gp gq x y p q) (k : Nat) (hk : k < 512) : W.cell? ⟨gp, k, none⟩ = some (.int .u8 (c8 (p.getD k 0))) ∧ W.frozen? ⟨gp, k, none⟩ = false := by
  refine ⟨?_, frozen_of_row _ _ _ _ _ h.rp⟩
  rw [cell_of_row _ _ _ _ _ _ h.rp, List.getElem?_toArray]
  exact cells8_at (by rw [h.pl]; exact hk)
theorem Ct.cellQ (h : Ct w W d mb mp ds ga gb gp gq x y p q) (k : Nat) (hk : k < 512) : W.cell? ⟨gq, k, none⟩ = some (.int .u8 (c8 (q.getD k 0))) ∧ W.frozen? ⟨gq, k, none⟩ = false := by
  refine ⟨?_, frozen_of_row _ _ _ _ _ h.rq⟩
  rw [cell_of_row _ _ _ _ _ _ h.rq, List.getElem?_toArray]
  exact cells8_at (by rw [h.ql]; exact hk)
theorem edD_blk {s : DS} (i : Nat) (hi : i < s.n) (b : List UInt8) (hb : b.length = 512) : edD s (i : Int) 0 b = ({ s with med := lay s.med i b }, 0) := by
  have h1 : hasB s (i : Int) = true := by unfold hasB; rw [Bool.and_eq_true, decide_eq_true_iff, decide_eq_true_iff]; omega
  unfold edD
  rw [if_neg (by rw [h1]; simp), if_neg (by rw [hb]; omega)]
  unfold lay
  simp
/-- Two blocks laid on an empty device. -/
def two (z : List UInt8) (i j : Nat) (p q : List UInt8) : DS := { newD 64 z with med := lay (lay z i p) j q }
theorem two_raw {z : List UInt8} (hz : Zm z) (i j : Nat) (hi : i < 2) (hj : j < 2) (hij : i ≠ j) (hp : p.length = 512) (hq : q.length = 512) : rdB (two z i j p q) i = p ∧ rdB (two z i j p q) j = q := by
  have hl := hz.len
  have hl2 : (lay z i p).length = 512 * 64 := by rw [lay_length _ _ _ (by omega), hl]
  refine ⟨?_, ?_⟩
  · rw [rdB_none rfl]
    show raw (lay (lay z i p) j q) i = p
    rw [raw_lay_other _ j i _ (by omega) (by omega) hij, raw_lay_same _ i _ (by omega) (by omega), splice_all _ _ (by rw [raw_length _ _ (by omega), hp])]
  · rw [rdB_none rfl]
    show raw (lay (lay z i p) j q) j = q
    rw [raw_lay_same _ j _ (by omega) (by omega), splice_all _ _ (by rw [raw_length _ _ (by omega), hq])]
theorem bst_two (D : DS) (hn : D.n = 64) : bst D 2 = pickA 64 1 (decR (rdB D 1)) (pickA 64 0 (decR (rdB D 0)) zeroS) := by
  rw [bst, bst, bst, hn]
theorem pick_yes {n k : Nat} {s best : Sup} (h1 : vaB s (n : Int) = true) (h2 : s.gen % 2 = (k : Int)) (h3 : best.gen < s.gen) : pickA n k (s, 0) best = s := by
  unfold pickA
  rw [if_pos ⟨rfl, h1, h2, h3⟩]
theorem pick_old {n k : Nat} {s best : Sup} (h3 : ¬ best.gen < s.gen) : pickA n k (s, 0) best = best := by
  unfold pickA
  rw [if_neg (fun h => h3 h.2.2.2)]
theorem pick_away {n k : Nat} {s best : Sup} (h2 : ¬ s.gen % 2 = (k : Int)) : pickA n k (s, 0) best = best := by
  unfold pickA
  rw [if_neg (fun h => h2 h.2.2.1)]
theorem pick_bad {n k : Nat} {best : Sup} : pickA n k (zeroS, 2) best = best := by
  unfold pickA
  rw [if_neg (fun h => absurd h.1 (by decide))]
theorem readU_of {D : DS} {s : Sup} (h : bst D 2 = s) (hg : 1 ≤ s.gen) : readU D = (s, s.gen % 2, 0) := by
  unfold readU
  rw [h, if_neg (by omega)]
theorem readU_no {D : DS} (h : bst D 2 = zeroS) : readU D = (zeroS, 0, 5) := by
  unfold readU
  rw [h, if_pos (show zeroS.gen = 0 from rfl)]
end Go.Proofs.Ythjekiddjldehaa
