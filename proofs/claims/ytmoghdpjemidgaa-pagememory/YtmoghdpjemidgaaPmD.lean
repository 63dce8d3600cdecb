/-
  A node whose lists grow behind what they hold (for the law's longer).
-/
import Derived.Test.YtmoghdpjemidgaaPmB
namespace Go.Proofs.Ytmoghdpjemidgaa
open Go.RowKit Go.Maps
namespace Pm
/-- Where a row lies behind appends: where it lay, or in a new block. -/
def Nr (w : World) (u v : Value) : Prop := ∀ y, v.ownBlock = some y → u.ownBlock = some y ∨ w.heap.size ≤ y
theorem Nr.refl (w : World) (u : Value) : Nr w u u := fun _ h => Or.inl h
theorem Nr.step {w W : World} {u v v' : Value} (h : Nr w u v) (hs : w.heap.size ≤ W.heap.size) (hb : At v v' W) : Nr w u v' := fun y hy => by
  rcases hb y hy.symm with q | q
  · exact h y q.symm
  · exact Or.inr (by omega)
structure Lg (B : Nat) (w : World) (gx gz : Nat) (kd nx : Int) (dt : ByteArray) (u v : Nv) (es : List Ent) (cs : List Int) (ks : List ByteArray) (hs : List Int) (W : World) : Prop where
  x : W.heap[gx]? = some (.cells #[.int .i64 kd, v.e, v.c, v.k, v.h, .int .i64 nx, .string dt] 27 (0, 0))
  z : W.heap[gz]? = some (.cells #[.int .i64 0, .slice none 0 0, .slice none 0 0, .slice none 0 0, .slice none 0 0, .int .i64 0, .string ⟨#[]⟩] 27 (0, 0))
  e : OwnE B W v.e es
  c : OwnI B W v.c cs
  k : OwnS B W v.k ks
  h : OwnI B W v.h hs
  ne : Nr w u.e v.e
  nc : Nr w u.c v.c
  nk : Nr w u.k v.k
  nh : Nr w u.h v.h
  ap : ∀ g, v.c.ownBlock = some g → v.h.ownBlock ≠ some g
  kp : Kept (Fb u) w W
  g : w.heap.size ≤ gx ∧ w.heap.size ≤ gz ∧ gx ≠ gz
variable {B : Nat} {w W W' : World} {gx gz : Nat} {kd nx : Int} {dt : ByteArray} {u v : Nv} {es es' : List Ent} {cs cs' : List Int} {ks ks' : List ByteArray} {hs hs' : List Int}
theorem Lg.below (q : Lg B w gx gz kd nx dt u v es cs ks hs W) (hb : Below W.heap.size W W') : Lg B w gx gz kd nx dt u v es cs ks hs W' :=
  ⟨by rw [hb.block _ (lt_of_heap q.x)]; exact q.x, by rw [hb.block _ (lt_of_heap q.z)]; exact q.z, q.e.below hb, q.c.below hb, q.k.below hb, q.h.below hb, q.ne, q.nc, q.nk, q.nh, q.ap, q.kp.trans (Below.kept hb (fun _ => False)) (fun _ _ z => z.elim), q.g⟩
theorem Lg.appE (q : Lg B w gx gz kd nx dt u v es cs ks hs W) {v' : Value} (he : OwnE B W' v' es') (hg : W.grownBy W' v.e.ownBlock) (hb : At v.e v' W) :
    Lg B w gx gz kd nx dt u ⟨v', v.c, v.k, v.h⟩ es' cs ks hs (W'.setCell ⟨gx, 1, none⟩ v') := by
  have hk := grown_kept hg
  have hs1 := kept_set (F := fun y => y = gx) W' ⟨gx, 1, none⟩ v' rfl
  have ty : ∀ y c t, W.heap[y]? = some (.cells c t (0, 0)) → t ≠ 29 → ¬ some y = v.e.ownBlock := fun y c t hy hn e => by
    obtain ⟨c1, e1⟩ := q.e.row e.symm
    exact row_ne hy e1 hn
  have hx : W'.heap[gx]? = _ := (hk.block gx (lt_of_heap q.x) (ty gx _ _ q.x (by decide))).trans q.x
  have hz : W'.heap[gz]? = _ := (hk.block gz (lt_of_heap q.z) (ty gz _ _ q.z (by decide))).trans q.z
  have tx : ∀ y c t, W'.heap[y]? = some (.cells c t (0, 0)) → t ≠ 27 → ¬ y = gx := fun y c t hy hn e => by
    rw [e] at hy
    exact row_ne hy hx hn
  have sz := q.kp.size
  have hgg := q.g
  refine ⟨by rw [heap_setCell_same _ _ _ _ _ _ hx]; rfl, by rw [hs1.block gz (lt_of_heap hz) (by omega)]; exact hz, he.kept hs1 (fun y hy e => ?_), (q.c.kept hk (fun y hy e => ?_)).kept hs1 (fun y hy e => ?_), (q.k.kept hk (fun y hy e => ?_)).kept hs1 (fun y hy e => ?_), (q.h.kept hk (fun y hy e => ?_)).kept hs1 (fun y hy e => ?_), q.ne.step sz hb, q.nc, q.nk, q.nh, q.ap, ?_, q.g⟩
  · obtain ⟨c1, e1⟩ := he.row hy; exact tx y _ _ e1 (by decide) e
  · obtain ⟨c1, e1⟩ := q.c.row hy; exact ty y _ _ e1 (by decide) e
  · have o1 : OwnI B W' v.c _ := q.c.kept hk (fun y hy e => by obtain ⟨c1, e1⟩ := q.c.row hy; exact ty y _ _ e1 (by decide) e)
    obtain ⟨c1, e1⟩ := o1.row hy; exact tx y _ _ e1 (by decide) e
  · obtain ⟨c1, e1⟩ := q.k.row hy; exact ty y _ _ e1 (by decide) e
  · have o1 : OwnS B W' v.k _ := q.k.kept hk (fun y hy e => by obtain ⟨c1, e1⟩ := q.k.row hy; exact ty y _ _ e1 (by decide) e)
    obtain ⟨c1, e1⟩ := o1.row hy; exact tx y _ _ e1 (by decide) e
  · obtain ⟨c1, e1⟩ := q.h.row hy; exact ty y _ _ e1 (by decide) e
  · have o1 : OwnI B W' v.h _ := q.h.kept hk (fun y hy e => by obtain ⟨c1, e1⟩ := q.h.row hy; exact ty y _ _ e1 (by decide) e)
    obtain ⟨c1, e1⟩ := o1.row hy; exact tx y _ _ e1 (by decide) e
  · refine (q.kp.trans hk (fun y hy e => ?_)).trans hs1 (fun y hy e => ?_)
    · rcases q.ne y e.symm with z | z
      · exact (Or.inl) z.symm
      · omega
    · omega
theorem Lg.appC (q : Lg B w gx gz kd nx dt u v es cs ks hs W) {v' : Value} (he : OwnI B W' v' cs') (hg : W.grownBy W' v.c.ownBlock) (hb : At v.c v' W) :
    Lg B w gx gz kd nx dt u ⟨v.e, v', v.k, v.h⟩ es cs' ks hs (W'.setCell ⟨gx, 2, none⟩ v') := by
  have hk := grown_kept hg
  have hs1 := kept_set (F := fun y => y = gx) W' ⟨gx, 2, none⟩ v' rfl
  have ty : ∀ y c t, W.heap[y]? = some (.cells c t (0, 0)) → t ≠ 3 → ¬ some y = v.c.ownBlock := fun y c t hy hn e => by
    obtain ⟨c1, e1⟩ := q.c.row e.symm
    exact row_ne hy e1 hn
  have hx : W'.heap[gx]? = _ := (hk.block gx (lt_of_heap q.x) (ty gx _ _ q.x (by decide))).trans q.x
  have hz : W'.heap[gz]? = _ := (hk.block gz (lt_of_heap q.z) (ty gz _ _ q.z (by decide))).trans q.z
  have tx : ∀ y c t, W'.heap[y]? = some (.cells c t (0, 0)) → t ≠ 27 → ¬ y = gx := fun y c t hy hn e => by
    rw [e] at hy
    exact row_ne hy hx hn
  have sz := q.kp.size
  have hgg := q.g
  refine ⟨by rw [heap_setCell_same _ _ _ _ _ _ hx]; rfl, by rw [hs1.block gz (lt_of_heap hz) (by omega)]; exact hz, (q.e.kept hk (fun y hy e => ?_)).kept hs1 (fun y hy e => ?_), he.kept hs1 (fun y hy e => ?_), (q.k.kept hk (fun y hy e => ?_)).kept hs1 (fun y hy e => ?_), (q.h.kept hk (fun y hy e => ?_)).kept hs1 (fun y hy e => ?_), q.ne, q.nc.step sz hb, q.nk, q.nh, ?_, ?_, q.g⟩
  · obtain ⟨c1, e1⟩ := q.e.row hy; exact ty y _ _ e1 (by decide) e
  · have o1 : OwnE B W' v.e _ := q.e.kept hk (fun y hy e => by obtain ⟨c1, e1⟩ := q.e.row hy; exact ty y _ _ e1 (by decide) e)
    obtain ⟨c1, e1⟩ := o1.row hy; exact tx y _ _ e1 (by decide) e
  · obtain ⟨c1, e1⟩ := he.row hy; exact tx y _ _ e1 (by decide) e
  · obtain ⟨c1, e1⟩ := q.k.row hy; exact ty y _ _ e1 (by decide) e
  · have o1 : OwnS B W' v.k _ := q.k.kept hk (fun y hy e => by obtain ⟨c1, e1⟩ := q.k.row hy; exact ty y _ _ e1 (by decide) e)
    obtain ⟨c1, e1⟩ := o1.row hy; exact tx y _ _ e1 (by decide) e
  · exact q.ap y e.symm hy
  · have o1 : OwnI B W' v.h _ := q.h.kept hk (fun y hy e => by exact q.ap y e.symm hy)
    obtain ⟨c1, e1⟩ := o1.row hy; exact tx y _ _ e1 (by decide) e
  · intro g h1 h2
    rcases hb g h1.symm with z | z
    · exact q.ap g z.symm h2
    · have := (q.h.lt g h2).2; omega
  · refine (q.kp.trans hk (fun y hy e => ?_)).trans hs1 (fun y hy e => ?_)
    · rcases q.nc y e.symm with z | z
      · exact (fun z => Or.inr (Or.inl z)) z.symm
      · omega
    · omega
theorem Lg.appK (q : Lg B w gx gz kd nx dt u v es cs ks hs W) {v' : Value} (he : OwnS B W' v' ks') (hg : W.grownBy W' v.k.ownBlock) (hb : At v.k v' W) :
    Lg B w gx gz kd nx dt u ⟨v.e, v.c, v', v.h⟩ es cs ks' hs (W'.setCell ⟨gx, 3, none⟩ v') := by
  have hk := grown_kept hg
  have hs1 := kept_set (F := fun y => y = gx) W' ⟨gx, 3, none⟩ v' rfl
  have ty : ∀ y c t, W.heap[y]? = some (.cells c t (0, 0)) → t ≠ 9 → ¬ some y = v.k.ownBlock := fun y c t hy hn e => by
    obtain ⟨c1, e1⟩ := q.k.row e.symm
    exact row_ne hy e1 hn
  have hx : W'.heap[gx]? = _ := (hk.block gx (lt_of_heap q.x) (ty gx _ _ q.x (by decide))).trans q.x
  have hz : W'.heap[gz]? = _ := (hk.block gz (lt_of_heap q.z) (ty gz _ _ q.z (by decide))).trans q.z
  have tx : ∀ y c t, W'.heap[y]? = some (.cells c t (0, 0)) → t ≠ 27 → ¬ y = gx := fun y c t hy hn e => by
    rw [e] at hy
    exact row_ne hy hx hn
  have sz := q.kp.size
  have hgg := q.g
  refine ⟨by rw [heap_setCell_same _ _ _ _ _ _ hx]; rfl, by rw [hs1.block gz (lt_of_heap hz) (by omega)]; exact hz, (q.e.kept hk (fun y hy e => ?_)).kept hs1 (fun y hy e => ?_), (q.c.kept hk (fun y hy e => ?_)).kept hs1 (fun y hy e => ?_), he.kept hs1 (fun y hy e => ?_), (q.h.kept hk (fun y hy e => ?_)).kept hs1 (fun y hy e => ?_), q.ne, q.nc, q.nk.step sz hb, q.nh, q.ap, ?_, q.g⟩
  · obtain ⟨c1, e1⟩ := q.e.row hy; exact ty y _ _ e1 (by decide) e
  · have o1 : OwnE B W' v.e _ := q.e.kept hk (fun y hy e => by obtain ⟨c1, e1⟩ := q.e.row hy; exact ty y _ _ e1 (by decide) e)
    obtain ⟨c1, e1⟩ := o1.row hy; exact tx y _ _ e1 (by decide) e
  · obtain ⟨c1, e1⟩ := q.c.row hy; exact ty y _ _ e1 (by decide) e
  · have o1 : OwnI B W' v.c _ := q.c.kept hk (fun y hy e => by obtain ⟨c1, e1⟩ := q.c.row hy; exact ty y _ _ e1 (by decide) e)
    obtain ⟨c1, e1⟩ := o1.row hy; exact tx y _ _ e1 (by decide) e
  · obtain ⟨c1, e1⟩ := he.row hy; exact tx y _ _ e1 (by decide) e
  · obtain ⟨c1, e1⟩ := q.h.row hy; exact ty y _ _ e1 (by decide) e
  · have o1 : OwnI B W' v.h _ := q.h.kept hk (fun y hy e => by obtain ⟨c1, e1⟩ := q.h.row hy; exact ty y _ _ e1 (by decide) e)
    obtain ⟨c1, e1⟩ := o1.row hy; exact tx y _ _ e1 (by decide) e
  · refine (q.kp.trans hk (fun y hy e => ?_)).trans hs1 (fun y hy e => ?_)
    · rcases q.nk y e.symm with z | z
      · exact (fun z => Or.inr (Or.inr (Or.inl z))) z.symm
      · omega
    · omega
theorem Lg.appH (q : Lg B w gx gz kd nx dt u v es cs ks hs W) {v' : Value} (he : OwnI B W' v' hs') (hg : W.grownBy W' v.h.ownBlock) (hb : At v.h v' W) :
    Lg B w gx gz kd nx dt u ⟨v.e, v.c, v.k, v'⟩ es cs ks hs' (W'.setCell ⟨gx, 4, none⟩ v') := by
  have hk := grown_kept hg
  have hs1 := kept_set (F := fun y => y = gx) W' ⟨gx, 4, none⟩ v' rfl
  have ty : ∀ y c t, W.heap[y]? = some (.cells c t (0, 0)) → t ≠ 3 → ¬ some y = v.h.ownBlock := fun y c t hy hn e => by
    obtain ⟨c1, e1⟩ := q.h.row e.symm
    exact row_ne hy e1 hn
  have hx : W'.heap[gx]? = _ := (hk.block gx (lt_of_heap q.x) (ty gx _ _ q.x (by decide))).trans q.x
  have hz : W'.heap[gz]? = _ := (hk.block gz (lt_of_heap q.z) (ty gz _ _ q.z (by decide))).trans q.z
  have tx : ∀ y c t, W'.heap[y]? = some (.cells c t (0, 0)) → t ≠ 27 → ¬ y = gx := fun y c t hy hn e => by
    rw [e] at hy
    exact row_ne hy hx hn
  have sz := q.kp.size
  have hgg := q.g
  refine ⟨by rw [heap_setCell_same _ _ _ _ _ _ hx]; rfl, by rw [hs1.block gz (lt_of_heap hz) (by omega)]; exact hz, (q.e.kept hk (fun y hy e => ?_)).kept hs1 (fun y hy e => ?_), (q.c.kept hk (fun y hy e => ?_)).kept hs1 (fun y hy e => ?_), (q.k.kept hk (fun y hy e => ?_)).kept hs1 (fun y hy e => ?_), he.kept hs1 (fun y hy e => ?_), q.ne, q.nc, q.nk, q.nh.step sz hb, ?_, ?_, q.g⟩
  · obtain ⟨c1, e1⟩ := q.e.row hy; exact ty y _ _ e1 (by decide) e
  · have o1 : OwnE B W' v.e _ := q.e.kept hk (fun y hy e => by obtain ⟨c1, e1⟩ := q.e.row hy; exact ty y _ _ e1 (by decide) e)
    obtain ⟨c1, e1⟩ := o1.row hy; exact tx y _ _ e1 (by decide) e
  · exact q.ap y hy e.symm
  · have o1 : OwnI B W' v.c _ := q.c.kept hk (fun y hy e => by exact q.ap y hy e.symm)
    obtain ⟨c1, e1⟩ := o1.row hy; exact tx y _ _ e1 (by decide) e
  · obtain ⟨c1, e1⟩ := q.k.row hy; exact ty y _ _ e1 (by decide) e
  · have o1 : OwnS B W' v.k _ := q.k.kept hk (fun y hy e => by obtain ⟨c1, e1⟩ := q.k.row hy; exact ty y _ _ e1 (by decide) e)
    obtain ⟨c1, e1⟩ := o1.row hy; exact tx y _ _ e1 (by decide) e
  · obtain ⟨c1, e1⟩ := he.row hy; exact tx y _ _ e1 (by decide) e
  · intro g h1 h2
    rcases hb g h2.symm with z | z
    · exact q.ap g h1 z.symm
    · have := (q.c.lt g h1).2; omega
  · refine (q.kp.trans hk (fun y hy e => ?_)).trans hs1 (fun y hy e => ?_)
    · rcases q.nh y e.symm with z | z
      · exact (fun z => Or.inr (Or.inr (Or.inr z))) z.symm
      · omega
    · omega
end Pm
end Go.Proofs.Ytmoghdpjemidgaa
