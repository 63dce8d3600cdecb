/-
  A node whose lists are marked, in memory (for the law's write).
-/
import Derived.Test.YtmoghdpjemidgaaPmA
namespace Go.Proofs.Ytmoghdpjemidgaa
open Go.RowKit Go.Maps
namespace Pm
/-- The first i elements turned. -/
def tm {α : Type} (f : α → α) (l : List α) (i : Nat) : List α := (l.take i).map f ++ l.drop i
theorem tm_len {α : Type} (f : α → α) (l : List α) (i : Nat) : (tm f l i).length = l.length := by
  unfold tm; rw [List.length_append, List.length_map, List.length_take, List.length_drop]; omega
theorem tm_all {α : Type} (f : α → α) (l : List α) (i : Nat) (h : l.length ≤ i) : tm f l i = l.map f := by
  unfold tm; rw [List.take_of_length_le h, List.drop_of_length_le h, List.append_nil]
theorem tm_get {α : Type} (f : α → α) (l : List α) (i : Nat) (z : α) (h : i < l.length) : (tm f l i).getD i z = l.getD i z := by
  unfold tm
  rw [List.getD_eq_getElem?_getD, List.getD_eq_getElem?_getD, List.getElem?_append_right (by simp; omega)]
  simp
  congr 2
  omega
theorem tm_step {α : Type} (f : α → α) (l : List α) (i : Nat) (z : α) (h : i < l.length) : (tm f l i).set i (f (l.getD i z)) = tm f l (i + 1) := by
  unfold tm
  have e : ((l.take i).map f).length = i := by simp; omega
  rw [List.set_append_right _ _ (by omega), e, Nat.sub_self]
  have e2 : l.drop i = l.getD i z :: l.drop (i + 1) := by rw [List.getD_eq_getElem?_getD, List.getElem?_eq_getElem h]; simp
  have e3 : l.getD i z = l[i] := by rw [List.getD_eq_getElem?_getD, List.getElem?_eq_getElem h]; rfl
  have e4 : l.take (i + 1) = l.take i ++ [l[i]] := by rw [List.take_add_one, List.getElem?_eq_getElem h]; rfl
  rw [e2, List.set_cons_zero, e3, e4, List.map_append, List.append_assoc]
  rfl
def mE (k : Nat) (x : Ent) : Ent := (eT k, x.2)
theorem cellsE_set (l : List Ent) (i : Nat) (y : ByteArray) (h : i < l.length) : cellsE (l.set i (y, (l.getD i (⟨#[]⟩, ⟨#[]⟩)).2)) = (cellsE l).set (i * 2) (.string y) := by
  induction l generalizing i with
  | nil => simp at h
  | cons x r ih =>
    cases i with
    | zero => rfl
    | succ i =>
      have q := ih i (by simpa using h)
      rw [List.set_cons_succ, List.getD_cons_succ]
      show encE x ++ cellsE _ = (encE x ++ cellsE r).set _ _
      rw [q, show (i + 1) * 2 = 2 + i * 2 by omega, List.set_append_right _ _ (by simp [encE])]
      simp [encE]
theorem cellsI_set (l : List Int) (i : Nat) (y : Int) : cellsI (l.set i y) = (cellsI l).set i (.int .i64 y) := by simp [cellsI, List.map_set]
theorem cellsS_set (l : List ByteArray) (i : Nat) (y : ByteArray) : cellsS (l.set i y) = (cellsS l).set i (.string y) := by simp [cellsS, List.map_set]
theorem apE (k : Nat) : ((⟨#[101]⟩ : ByteArray) ++ (⟨#[UInt8.ofNat k]⟩ : ByteArray)) = eT k := by
  apply ByteArray.ext; simp [eT, ByteArray.data_append]
theorem apK (k : Nat) : ((⟨#[107]⟩ : ByteArray) ++ (⟨#[UInt8.ofNat k]⟩ : ByteArray)) = kT k := by
  apply ByteArray.ext; simp [kT, ByteArray.data_append]
/-- The blocks of a node's lists. -/
def Fb (v : Nv) (y : Nat) : Prop := some y = v.e.ownBlock ∨ some y = v.c.ownBlock ∨ some y = v.k.ownBlock ∨ some y = v.h.ownBlock
structure Wt (B : Nat) (w : World) (gx : Nat) (r : Array Value) (v : Nv) (es : List Ent) (cs : List Int) (ks : List ByteArray) (hs : List Int) (W : World) : Prop where
  x : W.heap[gx]? = some (.cells r 27 (0, 0))
  e : OwnE B W v.e es
  c : OwnI B W v.c cs
  k : OwnS B W v.k ks
  h : OwnI B W v.h hs
  ap : ∀ g, v.c.ownBlock = some g → v.h.ownBlock ≠ some g
  kp : Kept (Fb v) w W
variable {B : Nat} {w W W' : World} {gx : Nat} {r : Array Value} {v : Nv} {es es' : List Ent} {cs cs' : List Int} {ks ks' : List ByteArray} {hs hs' : List Int}
theorem Wt.below (q : Wt B w gx r v es cs ks hs W) (hb : Below W.heap.size W W') : Wt B w gx r v es cs ks hs W' :=
  ⟨by rw [hb.block _ (lt_of_heap q.x)]; exact q.x, q.e.below hb, q.c.below hb, q.k.below hb, q.h.below hb, q.ap, q.kp.trans (Below.kept hb (fun _ => False)) (fun _ _ z => z.elim)⟩
theorem Wt.setE (q : Wt B w gx r v es cs ks hs W) (he : OwnE B W' v.e es') (hg : W.grownBy W' v.e.ownBlock) : Wt B w gx r v es' cs ks hs W' := by
  have hk := grown_kept hg
  have ty : ∀ y c t, W.heap[y]? = some (.cells c t (0, 0)) → t ≠ 29 → ¬ some y = v.e.ownBlock := fun y c t hy hn e => by
    obtain ⟨c1, e1⟩ := q.e.row e.symm
    exact row_ne hy e1 hn
  refine ⟨by rw [hk.block gx (lt_of_heap q.x) (ty gx _ _ q.x (by decide))]; exact q.x, he, q.c.kept hk (fun y hy e => ?_), q.k.kept hk (fun y hy e => ?_), q.h.kept hk (fun y hy e => ?_), q.ap, q.kp.trans hk (fun y _ e => Or.inl e)⟩
  · obtain ⟨c1, e1⟩ := q.c.row hy; exact ty y _ _ e1 (by decide) e
  · obtain ⟨c1, e1⟩ := q.k.row hy; exact ty y _ _ e1 (by decide) e
  · obtain ⟨c1, e1⟩ := q.h.row hy; exact ty y _ _ e1 (by decide) e
theorem Wt.setK (q : Wt B w gx r v es cs ks hs W) (he : OwnS B W' v.k ks') (hg : W.grownBy W' v.k.ownBlock) : Wt B w gx r v es cs ks' hs W' := by
  have hk := grown_kept hg
  have ty : ∀ y c t, W.heap[y]? = some (.cells c t (0, 0)) → t ≠ 9 → ¬ some y = v.k.ownBlock := fun y c t hy hn e => by
    obtain ⟨c1, e1⟩ := q.k.row e.symm
    exact row_ne hy e1 hn
  refine ⟨by rw [hk.block gx (lt_of_heap q.x) (ty gx _ _ q.x (by decide))]; exact q.x, q.e.kept hk (fun y hy e => ?_), q.c.kept hk (fun y hy e => ?_), he, q.h.kept hk (fun y hy e => ?_), q.ap, q.kp.trans hk (fun y _ e => Or.inr (Or.inr (Or.inl e)))⟩
  · obtain ⟨c1, e1⟩ := q.e.row hy; exact ty y _ _ e1 (by decide) e
  · obtain ⟨c1, e1⟩ := q.c.row hy; exact ty y _ _ e1 (by decide) e
  · obtain ⟨c1, e1⟩ := q.h.row hy; exact ty y _ _ e1 (by decide) e
theorem Wt.setC (q : Wt B w gx r v es cs ks hs W) (he : OwnI B W' v.c cs') (hg : W.grownBy W' v.c.ownBlock) : Wt B w gx r v es cs' ks hs W' := by
  have hk := grown_kept hg
  have ty : ∀ y c t, W.heap[y]? = some (.cells c t (0, 0)) → t ≠ 3 → ¬ some y = v.c.ownBlock := fun y c t hy hn e => by
    obtain ⟨c1, e1⟩ := q.c.row e.symm
    exact row_ne hy e1 hn
  refine ⟨by rw [hk.block gx (lt_of_heap q.x) (ty gx _ _ q.x (by decide))]; exact q.x, q.e.kept hk (fun y hy e => ?_), he, q.k.kept hk (fun y hy e => ?_), q.h.kept hk (fun y hy e => q.ap y e.symm hy), q.ap, q.kp.trans hk (fun y _ e => Or.inr (Or.inl e))⟩
  · obtain ⟨c1, e1⟩ := q.e.row hy; exact ty y _ _ e1 (by decide) e
  · obtain ⟨c1, e1⟩ := q.k.row hy; exact ty y _ _ e1 (by decide) e
theorem Wt.setH (q : Wt B w gx r v es cs ks hs W) (he : OwnI B W' v.h hs') (hg : W.grownBy W' v.h.ownBlock) : Wt B w gx r v es cs ks hs' W' := by
  have hk := grown_kept hg
  have ty : ∀ y c t, W.heap[y]? = some (.cells c t (0, 0)) → t ≠ 3 → ¬ some y = v.h.ownBlock := fun y c t hy hn e => by
    obtain ⟨c1, e1⟩ := q.h.row e.symm
    exact row_ne hy e1 hn
  refine ⟨by rw [hk.block gx (lt_of_heap q.x) (ty gx _ _ q.x (by decide))]; exact q.x, q.e.kept hk (fun y hy e => ?_), q.c.kept hk (fun y hy e => q.ap y hy e.symm), q.k.kept hk (fun y hy e => ?_), he, q.ap, q.kp.trans hk (fun y _ e => Or.inr (Or.inr (Or.inr e)))⟩
  · obtain ⟨c1, e1⟩ := q.e.row hy; exact ty y _ _ e1 (by decide) e
  · obtain ⟨c1, e1⟩ := q.k.row hy; exact ty y _ _ e1 (by decide) e
end Pm
end Go.Proofs.Ytmoghdpjemidgaa
