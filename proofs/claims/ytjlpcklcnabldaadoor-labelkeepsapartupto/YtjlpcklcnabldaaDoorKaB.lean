/-
  A list of terms that Parse told, while it is written into.
-/
import Derived.Test.YtjlpcklcnabldaaDoorKaA
import Derived.Test.YtjlpcklcnabldaaDoorLLawReadsBack
namespace Go.Proofs.YtjlpcklcnabldaaDoor
open Go.RowKit
theorem line_none (p : ByteArray) (w : World) (hm : L.HasM w) (hn : L.splitE p = 41) : Calls Tryd.prog 5 #[.string p] w fun e w' => e = .returned (.tuple #[.slice none 0 0, .int .i64 41]) ∧ Below w.heap.size w w' := by
  have PA := Lib.hid (L.path_any p w hm)
  rw [hn] at PA
  clear hm
  go_enter Tryd.func5, Tryd.ntmps5
  go_wp2_with fail
  refine PA.out.mono ?_
  rintro e w1 ⟨rfl, hb⟩
  have B1 := Lib.hid hb
  clear hb PA
  go_wp2_with fail
  go_ret2
  exact ⟨rfl, B1.out⟩
/-- The terms' row, and each term's own row of values. -/
structure TT (g n : Nat) (W : World) (ys : List L.Trm) (f : Nat → List ByteArray) : Prop where
  row : L.RowT W g ys
  len : ys.length = n
  own : ∀ k, k < n → L.OwnS (g + 1) W (ys.getD k L.zeroT).vals (f k)
  ap : ∀ j k, j < n → k < n → j ≠ k → ∀ b, (ys.getD j L.zeroT).vals.ownBlock = some b → (ys.getD k L.zeroT).vals.ownBlock ≠ some b
theorem TT.of {B g n : Nat} {W : World} {ys : List L.Trm} (h : L.OwnTs B W (.slice (some ⟨g, 0, none⟩) n n) ys) : TT g n W ys (fun k => (ys.getD k L.zeroT).ts) ∧ B ≤ g := by
  obtain ⟨⟨g', e, hB, hrow, hy⟩, hp⟩ := h
  simp only [Value.slice.injEq, Option.some.injEq, Addr.mk.injEq, and_true] at e
  obtain ⟨rfl, rfl, _⟩ := e
  have mem : ∀ k, k < ys.length → ys.getD k L.zeroT ∈ ys := fun k hk => by rw [List.getD_eq_getElem?_getD, List.getElem?_eq_getElem hk]; exact List.getElem_mem hk
  refine ⟨⟨hrow, rfl, fun k hk => (hy _ (mem k hk)).1, fun j k hj hk hne b hb hb2 => ?_⟩, hB⟩
  have ej : ys.getD j L.zeroT = ys[j] := by rw [List.getD_eq_getElem?_getD, List.getElem?_eq_getElem hj]; rfl
  have ek : ys.getD k L.zeroT = ys[k] := by rw [List.getD_eq_getElem?_getD, List.getElem?_eq_getElem hk]; rfl
  rw [ej] at hb
  rw [ek] at hb2
  rcases Nat.lt_or_gt_of_ne hne with z | z
  · exact List.pairwise_iff_getElem.1 hp j k hj hk z b hb hb2
  · exact List.pairwise_iff_getElem.1 hp k j hk hj z b hb2 hb
theorem TT.below {g n : Nat} {W W' : World} {ys : List L.Trm} {f : Nat → List ByteArray} (h : TT g n W ys f) (hb : Below W.heap.size W W') : TT g n W' ys f := ⟨h.row.below h.row.lt hb, h.len, fun k hk => (h.own k hk).below hb, h.ap⟩
theorem TT.vals {g n : Nat} {W : World} {ys : List L.Trm} {f : Nat → List ByteArray} (h : TT g n W ys f) (k : Nat) (hk : k < n) : ∃ a c, (ys.getD k L.zeroT).vals = .slice a (f k).length c ∧ W.cell? ⟨g, k * 3 + 2, none⟩ = some (.slice a (f k).length c) := by
  obtain ⟨a, c, e⟩ := ownS_slice (h.own k hk)
  refine ⟨a, c, e, ?_⟩
  have q := (h.row.cell k 2 (by decide) (by rw [h.len]; exact hk)).1
  rw [q]
  show some (ys.getD k L.zeroT).vals = _
  rw [e]
theorem TT.key {g n : Nat} {W : World} {ys : List L.Trm} {f : Nat → List ByteArray} (h : TT g n W ys f) (k : Nat) (hk : k < n) : W.cell? ⟨g, k * 3, none⟩ = some (.string (ys.getD k L.zeroT).key) ∧ W.frozen? ⟨g, k * 3, none⟩ = false := by
  have q := h.row.cell k 0 (by decide) (by rw [h.len]; exact hk)
  rw [Nat.add_zero] at q
  exact ⟨q.1, q.2⟩
/-- A value of one term turned. -/
theorem TT.set {g n : Nat} {W : World} {ys : List L.Trm} {f : Nat → List ByteArray} (h : TT g n W ys f) (i j b m c : Nat) (hi : i < n) (e : (ys.getD i L.zeroT).vals = .slice (some ⟨b, 0, none⟩) m c) (hj : j < (f i).length) (t : ByteArray) : TT g n (W.setCell ⟨b, j, none⟩ (.string t)) ys (fun k => if k = i then (f i).set j t else f k) := by
  have ho := h.own i hi
  rw [e] at ho
  have hb : g + 1 ≤ b := (ho.lt b rfl).1
  refine ⟨(Below.heap_setCell _ _ _ _ (by show g ≠ b; omega)).trans h.row, h.len, fun k hk => ?_, h.ap⟩
  by_cases z : k = i
  · subst z
    rw [if_pos rfl, e]
    exact ownS_set ho j hj t
  · rw [if_neg z]
    exact (h.own k hk).set_ne (fun q => h.ap i k hi hk (Ne.symm z) b (by rw [e]; rfl) q) _
theorem TT.grown {g n : Nat} {W W' : World} {ys : List L.Trm} {f : Nat → List ByteArray} (h : TT g n W ys f) (i : Nat) (hi : i < n) (hg : W.grownBy W' (ys.getD i L.zeroT).vals.ownBlock) (ho : L.OwnS (g + 1) W' (ys.getD i L.zeroT).vals (f i)) : TT g n W' ys f := by
  refine ⟨(hg.block g h.row.lt (fun q => ?_)).trans h.row, h.len, fun k hk => ?_, h.ap⟩
  · have := ((h.own i hi).lt g q.symm).1
    omega
  · by_cases z : k = i
    · subst z; exact ho
    · exact (h.own k hk).grown hg (fun b hb q => h.ap k i hk hi z b hb q)
theorem cellsT_key (ys : List L.Trm) (i : Nat) (hi : i < ys.length) (t : ByteArray) : L.cellsT (ys.set i { ys.getD i L.zeroT with key := t }) = (L.cellsT ys).set (i * 3) (.string t) := by
  induction ys generalizing i with
  | nil => simp at hi
  | cons y r ih =>
    cases i with
    | zero => rw [List.set_cons_zero, L.cellsT, L.cellsT, List.flatMap_cons, List.flatMap_cons, List.getD_cons_zero]; rfl
    | succ i =>
      have q := ih i (by simpa using hi)
      rw [List.set_cons_succ, List.getD_cons_succ]
      unfold L.cellsT at q ⊢
      rw [List.flatMap_cons, List.flatMap_cons, q, List.set_append_right _ _ (by show 3 ≤ _; omega)]
      congr 2
      show i * 3 = (i + 1) * 3 - 3
      omega
theorem getD_setT (ys : List L.Trm) (i k : Nat) (y : L.Trm) (hi : i < ys.length) : (ys.set i y).getD k L.zeroT = if i = k then y else ys.getD k L.zeroT := by
  simp only [List.getD_eq_getElem?_getD, List.getElem?_set]
  by_cases z : i = k
  · subst z; simp [hi]
  · simp [z]
/-- A key turned. -/
theorem TT.rekey {g n : Nat} {W : World} {ys : List L.Trm} {f : Nat → List ByteArray} (h : TT g n W ys f) (i : Nat) (hi : i < n) (t : ByteArray) : TT g n (W.setCell ⟨g, i * 3, none⟩ (.string t)) (ys.set i { ys.getD i L.zeroT with key := t }) f := by
  have hl : i < ys.length := by rw [h.len]; exact hi
  have ev : ∀ k, ((ys.set i { ys.getD i L.zeroT with key := t }).getD k L.zeroT).vals = (ys.getD k L.zeroT).vals := fun k => by
    rw [getD_setT _ _ _ _ hl]
    split
    · rename_i z; subst z; rfl
    · rfl
  refine ⟨?_, by rw [List.length_set]; exact h.len, fun k hk => ?_, fun j k hj hk hne b hb => ?_⟩
  · show _ = _
    rw [cellsT_key ys i hl t]
    have q := heap_setCell_same W g (i * 3) _ _ (.string t) h.row
    rw [q]
    congr 2
    apply Array.toList_inj.1
    rw [Array.toList_setIfInBounds]
  · rw [ev k]
    exact (h.own k hk).set_ne (fun q => by have := ((h.own k hk).lt _ q).1; simp only at this; omega) _
  · rw [ev j] at hb; rw [ev k]; exact h.ap j k hj hk hne b hb
/-- All that the law's last part holds: t while it is written into, u and v that stay. -/
structure Q3 (w0 : World) (g n Bu Bv : Nat) (u v : Value) (us vs : List L.Trm) (W : World) (ys : List L.Trm) (f : Nat → List ByteArray) : Prop where
  tt : 0 < n → TT g n W ys f
  lim : 0 < n → g < Bu ∧ ∀ k, k < n → ∀ b, (ys.getD k L.zeroT).vals.ownBlock = some b → b < Bu
  lo : 0 < n → w0.heap.size ≤ g
  uo : u = .slice none 0 0 ∧ us = [] ∨ L.OwnTs Bu W u us
  vo : L.Copied Bv W v vs
  bb : Bu ≤ Bv
  be : Below w0.heap.size w0 W
theorem Q3.below {w0 : World} {g n Bu Bv : Nat} {u v : Value} {us vs : List L.Trm} {W W' : World} {ys : List L.Trm} {f : Nat → List ByteArray} (h : Q3 w0 g n Bu Bv u v us vs W ys f) (hb : Below W.heap.size W W') : Q3 w0 g n Bu Bv u v us vs W' ys f :=
  ⟨fun q => (h.tt q).below hb, h.lim, h.lo, h.uo.imp id (fun q => ownTs_hi q (Hi.below hb)), copied_hi h.vo (Hi.below hb), h.bb, h.be.trans (hb.mono h.be.size)⟩
theorem Q3.hi {w0 : World} {g n Bu Bv : Nat} {u v : Value} {us vs : List L.Trm} {W W' : World} {ys ys' : List L.Trm} {f f' : Nat → List ByteArray} (h : Q3 w0 g n Bu Bv u v us vs W ys f) (hh : Hi Bu W W') (ht : 0 < n → TT g n W' ys' f') (hv : ∀ k, (ys'.getD k L.zeroT).vals = (ys.getD k L.zeroT).vals) (hb : Below w0.heap.size w0 W') : Q3 w0 g n Bu Bv u v us vs W' ys' f' :=
  ⟨ht, fun q => ⟨(h.lim q).1, fun k hk b hb => (h.lim q).2 k hk b (by rw [← hv k]; exact hb)⟩, h.lo, h.uo.imp id (fun q => ownTs_hi q hh), copied_hi h.vo (hh.mono h.bb), h.bb, hb⟩
theorem Q3.set {w0 : World} {g n Bu Bv : Nat} {u v : Value} {us vs : List L.Trm} {W : World} {ys : List L.Trm} {f : Nat → List ByteArray} (h : Q3 w0 g n Bu Bv u v us vs W ys f) (i j b m c : Nat) (hi : i < n) (e : (ys.getD i L.zeroT).vals = .slice (some ⟨b, 0, none⟩) m c) (hj : j < (f i).length) (t : ByteArray) : Q3 w0 g n Bu Bv u v us vs (W.setCell ⟨b, j, none⟩ (.string t)) ys (fun k => if k = i then (f i).set j t else f k) := by
  have h0 : 0 < n := by omega
  have ho := (h.tt h0).own i hi
  rw [e] at ho
  have hb : g + 1 ≤ b := (ho.lt b rfl).1
  exact h.hi (Hi.set W _ _ ((h.lim h0).2 i hi b (by rw [e]; rfl))) (fun _ => (h.tt h0).set i j b m c hi e hj t) (fun _ => rfl) (h.be.setCell (p := ⟨b, j, none⟩) (by have := h.lo h0; show w0.heap.size ≤ b; omega) _)
theorem Q3.grown {w0 : World} {g n Bu Bv : Nat} {u v : Value} {us vs : List L.Trm} {W W' : World} {ys : List L.Trm} {f : Nat → List ByteArray} (h : Q3 w0 g n Bu Bv u v us vs W ys f) (i : Nat) (hi : i < n) (hg : W.grownBy W' (ys.getD i L.zeroT).vals.ownBlock) (ho : L.OwnS (g + 1) W' (ys.getD i L.zeroT).vals (f i)) : Q3 w0 g n Bu Bv u v us vs W' ys f := by
  have h0 : 0 < n := by omega
  have hb : Below w0.heap.size W W' := (grown_belowR hg (own_kT.1 ((h.tt h0).own i hi)) (Nat.succ_le_of_lt (h.tt h0).row.lt)).mono (Nat.le_succ_of_le (h.lo h0))
  exact h.hi (Hi.grown hg (fun k q => (h.lim h0).2 i hi k q)) (fun _ => (h.tt h0).grown i hi hg ho) (fun _ => rfl) (h.be.trans hb)
theorem Q3.rekey {w0 : World} {g n Bu Bv : Nat} {u v : Value} {us vs : List L.Trm} {W : World} {ys : List L.Trm} {f : Nat → List ByteArray} (h : Q3 w0 g n Bu Bv u v us vs W ys f) (i : Nat) (hi : i < n) (t : ByteArray) : Q3 w0 g n Bu Bv u v us vs (W.setCell ⟨g, i * 3, none⟩ (.string t)) (ys.set i { ys.getD i L.zeroT with key := t }) f := by
  have h0 : 0 < n := by omega
  have hl : i < ys.length := by rw [(h.tt h0).len]; exact hi
  refine h.hi (Hi.set W _ _ (h.lim h0).1) (fun _ => (h.tt h0).rekey i hi t) (fun k => ?_) (h.be.setCell (p := ⟨g, i * 3, none⟩) (h.lo h0) _)
  rw [getD_setT _ _ _ _ hl]
  split
  · rename_i z; subst z; rfl
  · rfl
end Go.Proofs.YtjlpcklcnabldaaDoor
