/-
  Six pieces of memory, apart by an owner's number for each block (for PageMemory).
-/
import Derived.Test.YtmoghdpjemidgaaPmE
import Derived.Test.YtmoghdpjemidgaaPmC
import Derived.Test.YtmoghdpjemidgaaLawPB
namespace Go.Proofs.Ytmoghdpjemidgaa
open Go.RowKit Go.Maps
namespace Pm
/-- The blocks of v are the owner's. -/
def Lab (f : Nat → Nat) (i : Nat) (v : Value) : Prop := ∀ k, v.ownBlock = some k → f k = i
/-- What is new belongs to i. -/
def rl (f : Nat → Nat) (s i : Nat) (y : Nat) : Nat := if y < s then f y else i
theorem rl_lt {f : Nat → Nat} {s i y : Nat} (h : y < s) : rl f s i y = f y := if_pos h
theorem rl_ge {f : Nat → Nat} {s i y : Nat} (h : s ≤ y) : rl f s i y = i := if_neg (by omega)
theorem Lab.rl {f : Nat → Nat} {s i j : Nat} {v : Value} (h : Lab f j v) (hl : ∀ k, v.ownBlock = some k → k < s) : Lab (Pm.rl f s i) j v := fun k hk => by rw [rl_lt (hl k hk)]; exact h k hk
theorem Lab.nr {f : Nat → Nat} {j : Nat} {w : World} {u v : Value} (h : Lab f j u) (hl : ∀ k, u.ownBlock = some k → k < w.heap.size) (hn : Nr w u v) : Lab (Pm.rl f w.heap.size j) j v := fun k hk => by
  rcases hn k hk with q | q
  · rw [rl_lt (hl k q)]; exact h k q
  · exact rl_ge q
/-- A node's piece: its box and its four lists. -/
structure Pc (B : Nat) (f : Nat → Nat) (j : Nat) (W : World) (gb : Nat) (v : Nv) (n : Nd) : Prop where
  x : W.heap[gb]? = some (.cells (n.arr v) 27 (0, 0))
  gB : B ≤ gb
  o : Ow B W v n
  lb : f gb = j
  le : Lab f j v.e
  lc : Lab f j v.c
  lk : Lab f j v.k
  lh : Lab f j v.h
/-- A piece of bytes. -/
structure Pb (B : Nat) (f : Nat → Nat) (j : Nat) (W : World) (v : Value) (l : List UInt8) : Prop where
  o : Own B W v l
  lb : Lab f j v
variable {B : Nat} {f : Nat → Nat} {i j : Nat} {w0 W W' : World} {gb : Nat} {v : Nv} {n : Nd} {F : Nat → Prop}
theorem Pc.other (h : Pc B f j W gb v n) (hk : Kept F W W') (hF : ∀ y, y < W.heap.size → F y → f y = i) (hne : j ≠ i) : Pc B (rl f W.heap.size i) j W' gb v n := by
  have q : ∀ {u : Value}, Lab f j u → (∀ k, u.ownBlock = some k → B ≤ k ∧ k < W.heap.size) → ∀ k, u.ownBlock = some k → ¬ F k := fun hl ht k hk' hf => hne (by rw [← hl k hk']; exact hF k (ht k hk').2 hf)
  exact ⟨by rw [hk.block gb (lt_of_heap h.x) (fun e => hne (by rw [← h.lb]; exact hF gb (lt_of_heap h.x) e))]; exact h.x, h.gB,
    ⟨h.o.e.kept hk (q h.le h.o.e.lt), h.o.c.kept hk (q h.lc h.o.c.lt), h.o.k.kept hk (q h.lk h.o.k.lt), h.o.h.kept hk (q h.lh h.o.h.lt), h.o.ap⟩,
    by rw [rl_lt (lt_of_heap h.x)]; exact h.lb, h.le.rl (fun k hk => (h.o.e.lt k hk).2), h.lc.rl (fun k hk => (h.o.c.lt k hk).2), h.lk.rl (fun k hk => (h.o.k.lt k hk).2), h.lh.rl (fun k hk => (h.o.h.lt k hk).2)⟩
theorem Pb.other {u : Value} {l : List UInt8} (h : Pb B f j W u l) (hk : Kept F W W') (hF : ∀ y, y < W.heap.size → F y → f y = i) (hne : j ≠ i) : Pb B (rl f W.heap.size i) j W' u l :=
  ⟨h.o.kept hk (fun k hk' hf => hne (by rw [← h.lb k hk']; exact hF k (h.o.lt k hk').2 hf)), h.lb.rl (fun k hk => (h.o.lt k hk).2)⟩
theorem Pc.below (h : Pc B f j W gb v n) (hb : Below W.heap.size W W') : Pc B f j W' gb v n :=
  ⟨by rw [hb.block gb (lt_of_heap h.x)]; exact h.x, h.gB, h.o.below hb, h.lb, h.le, h.lc, h.lk, h.lh⟩
theorem Pb.below {u : Value} {l : List UInt8} (h : Pb B f j W u l) (hb : Below W.heap.size W W') : Pb B f j W' u l := ⟨h.o.below hb, h.lb⟩
/-- The box is in no list. -/
theorem Pc.noFb (h : Pc B f j W gb v n) : ¬ Fb v gb := fun e => by
  rcases e with e | e | e | e
  · obtain ⟨c, q⟩ := h.o.e.row e.symm; exact row_ne h.x q (by decide)
  · obtain ⟨c, q⟩ := h.o.c.row e.symm; exact row_ne h.x q (by decide)
  · obtain ⟨c, q⟩ := h.o.k.row e.symm; exact row_ne h.x q (by decide)
  · obtain ⟨c, q⟩ := h.o.h.row e.symm; exact row_ne h.x q (by decide)
theorem Pc.fb (h : Pc B f j W gb v n) : ∀ y, Fb v y → f y = j ∧ B ≤ y := fun y e => by
  rcases e with e | e | e | e
  · exact ⟨h.le y e.symm, (h.o.e.lt y e.symm).1⟩
  · exact ⟨h.lc y e.symm, (h.o.c.lt y e.symm).1⟩
  · exact ⟨h.lk y e.symm, (h.o.k.lt y e.symm).1⟩
  · exact ⟨h.lh y e.symm, (h.o.h.lt y e.symm).1⟩
/-- The node marked; the node made longer. -/
def mkN (k : Nat) (n : Nd) : Nd := ⟨n.kind, n.ents.map (mE k), n.chs.map fun _ => 1000 + (k : Int), n.keys.map fun _ => kT k, n.kids.map fun _ => 2000 + (k : Int), n.next, n.data⟩
def lgN (k : Nat) (n : Nd) : Nd := ⟨n.kind, n.ents ++ List.replicate 64 (eT k, ⟨#[]⟩), n.chs ++ List.replicate 64 (1000 + (k : Int)), n.keys ++ List.replicate 64 (kT k), n.kids ++ List.replicate 64 (2000 + (k : Int)), n.next, n.data⟩
theorem Pc.write (h : Pc B f j W gb v n) (k : Nat) (he : OwnE B W' v.e (n.ents.map (mE k))) (hc : OwnI B W' v.c (n.chs.map fun _ => 1000 + (k : Int))) (hy : OwnS B W' v.k (n.keys.map fun _ => kT k)) (hh : OwnI B W' v.h (n.kids.map fun _ => 2000 + (k : Int))) (hk : Kept (Fb v) W W') :
    Pc B (rl f W.heap.size j) j W' gb v (mkN k n) :=
  ⟨by rw [hk.block gb (lt_of_heap h.x) h.noFb]; exact h.x, h.gB, ⟨he, hc, hy, hh, h.o.ap⟩, by rw [rl_lt (lt_of_heap h.x)]; exact h.lb, h.le.rl (fun k hk => (h.o.e.lt k hk).2), h.lc.rl (fun k hk => (h.o.c.lt k hk).2), h.lk.rl (fun k hk => (h.o.k.lt k hk).2), h.lh.rl (fun k hk => (h.o.h.lt k hk).2)⟩
theorem Pc.longer (h : Pc B f j W gb v n) (k : Nat) {v' : Nv} (he : OwnE B W' v'.e (n.ents ++ List.replicate 64 (eT k, ⟨#[]⟩))) (hc : OwnI B W' v'.c (n.chs ++ List.replicate 64 (1000 + (k : Int)))) (hy : OwnS B W' v'.k (n.keys ++ List.replicate 64 (kT k))) (hh : OwnI B W' v'.h (n.kids ++ List.replicate 64 (2000 + (k : Int))))
    (ne : Nr W v.e v'.e) (nc : Nr W v.c v'.c) (nk : Nr W v.k v'.k) (nh : Nr W v.h v'.h) (ap : ∀ g, v'.c.ownBlock = some g → v'.h.ownBlock ≠ some g) (hk : Kept (Fb v) W W') :
    Pc B (rl f W.heap.size j) j (W'.setRow gb (n.arr v')) gb v' (lgN k n) ∧ Kept (fun y => Fb v y ∨ y = gb) W (W'.setRow gb (n.arr v')) ∧ W'.heap[gb]? = some (.cells (n.arr v) 27 (0, 0)) := by
  have hx : W'.heap[gb]? = some (.cells (n.arr v) 27 (0, 0)) := by rw [hk.block gb (lt_of_heap h.x) h.noFb]; exact h.x
  have ks := kept_setRow W' gb (n.arr v')
  have no : ∀ {y c t}, W'.heap[y]? = some (.cells c t (0, 0)) → t ≠ 27 → ¬ y = gb := fun hy hn e => by
    rw [e] at hy
    exact row_ne hy hx hn
  refine ⟨⟨setRow_heap _ _ _ _ _ _ hx, h.gB, ⟨he.kept ks (fun y hy => ?_), hc.kept ks (fun y hy => ?_), hy.kept ks (fun y hy => ?_), hh.kept ks (fun y hy => ?_), ap⟩, by rw [rl_lt (lt_of_heap h.x)]; exact h.lb, h.le.nr (fun k hk => (h.o.e.lt k hk).2) ne, h.lc.nr (fun k hk => (h.o.c.lt k hk).2) nc, h.lk.nr (fun k hk => (h.o.k.lt k hk).2) nk, h.lh.nr (fun k hk => (h.o.h.lt k hk).2) nh⟩, ?_, hx⟩
  · obtain ⟨c, q⟩ := he.row hy; exact no q (by decide)
  · obtain ⟨c, q⟩ := hc.row hy; exact no q (by decide)
  · obtain ⟨c, q⟩ := OwnS.row ‹OwnS B W' v'.k _› hy; exact no q (by decide)
  · obtain ⟨c, q⟩ := hh.row hy; exact no q (by decide)
  · exact (hk.mono (fun _ _ => Or.inl)).trans ks (fun y _ e => Or.inr e)
structure Six (w0 : World) (f : Nat → Nat) (W : World) (gi gx gy : Nat) (vi vx vy : Nv) (ni nx ny : Nd) (va vb vk : Value) (la lb lk : List UInt8) : Prop where
  bl : Below w0.heap.size w0 W
  i : Pc w0.heap.size f 1 W gi vi ni
  x : Pc w0.heap.size f 2 W gx vx nx
  y : Pc w0.heap.size f 3 W gy vy ny
  a : Pb w0.heap.size f 4 W va la
  b : Pb w0.heap.size f 5 W vb lb
  k : Pb w0.heap.size f 6 W vk lk
variable {gi gx gy : Nat} {vi vx vy : Nv} {ni nx ny : Nd} {va vb vk : Value} {la lb lk : List UInt8}
theorem Six.below (h : Six w0 f W gi gx gy vi vx vy ni nx ny va vb vk la lb lk) (hb : Below W.heap.size W W') : Six w0 f W' gi gx gy vi vx vy ni nx ny va vb vk la lb lk := ⟨h.bl.trans (hb.mono h.bl.size), h.i.below hb, h.x.below hb, h.y.below hb, h.a.below hb, h.b.below hb, h.k.below hb⟩
theorem Six.ch1 (h : Six w0 f W gi gx gy vi vx vy ni nx ny va vb vk la lb lk) (hk : Kept F W W') (hF : ∀ y, y < W.heap.size → F y → f y = 1) (hB : ∀ y, F y → w0.heap.size ≤ y) {v' : Nv} {n' : Nd} (hn : Pc w0.heap.size (rl f W.heap.size 1) 1 W' gi v' n') : Six w0 (rl f W.heap.size 1) W' gi gx gy v' vx vy n' nx ny va vb vk la lb lk :=
  ⟨h.bl.trans (hk.below h.bl.size hB), hn, h.x.other hk hF (by decide), h.y.other hk hF (by decide), h.a.other hk hF (by decide), h.b.other hk hF (by decide), h.k.other hk hF (by decide)⟩
theorem Six.wr1 (h : Six w0 f W gi gx gy vi vx vy ni nx ny va vb vk la lb lk) (k : Nat) (he : OwnE w0.heap.size W' vi.e (ni.ents.map (mE k))) (hc : OwnI w0.heap.size W' vi.c (ni.chs.map fun _ => 1000 + (k : Int))) (hy : OwnS w0.heap.size W' vi.k (ni.keys.map fun _ => kT k)) (hh : OwnI w0.heap.size W' vi.h (ni.kids.map fun _ => 2000 + (k : Int))) (hk : Kept (Fb vi) W W') : Six w0 (rl f W.heap.size 1) W' gi gx gy vi vx vy (mkN k ni) nx ny va vb vk la lb lk :=
  h.ch1 hk (fun y _ e => (h.i.fb y e).1) (fun y e => (h.i.fb y e).2) (h.i.write k he hc hy hh hk)
theorem Six.lg1 (h : Six w0 f W gi gx gy vi vx vy ni nx ny va vb vk la lb lk) (k : Nat) {v' : Nv} (he : OwnE w0.heap.size W' v'.e (ni.ents ++ List.replicate 64 (eT k, ⟨#[]⟩))) (hc : OwnI w0.heap.size W' v'.c (ni.chs ++ List.replicate 64 (1000 + (k : Int)))) (hy : OwnS w0.heap.size W' v'.k (ni.keys ++ List.replicate 64 (kT k))) (hh : OwnI w0.heap.size W' v'.h (ni.kids ++ List.replicate 64 (2000 + (k : Int))))
    (q1 : Nr W vi.e v'.e) (q2 : Nr W vi.c v'.c) (q3 : Nr W vi.k v'.k) (q4 : Nr W vi.h v'.h) (ap : ∀ g, v'.c.ownBlock = some g → v'.h.ownBlock ≠ some g) (hk : Kept (Fb vi) W W') : Six w0 (rl f W.heap.size 1) (W'.setRow gi (ni.arr v')) gi gx gy v' vx vy (lgN k ni) nx ny va vb vk la lb lk ∧ W'.heap[gi]? = some (.cells (ni.arr vi) 27 (0, 0)) := by
  obtain ⟨p1, p2, p3⟩ := h.i.longer k he hc hy hh q1 q2 q3 q4 ap hk
  exact ⟨h.ch1 p2 (fun y _ e => e.elim (fun e => (h.i.fb y e).1) (fun e => by rw [e]; exact h.i.lb)) (fun y e => e.elim (fun e => (h.i.fb y e).2) (fun e => by rw [e]; exact h.i.gB)) p1, p3⟩
theorem Six.ch2 (h : Six w0 f W gi gx gy vi vx vy ni nx ny va vb vk la lb lk) (hk : Kept F W W') (hF : ∀ y, y < W.heap.size → F y → f y = 2) (hB : ∀ y, F y → w0.heap.size ≤ y) {v' : Nv} {n' : Nd} (hn : Pc w0.heap.size (rl f W.heap.size 2) 2 W' gx v' n') : Six w0 (rl f W.heap.size 2) W' gi gx gy vi v' vy ni n' ny va vb vk la lb lk :=
  ⟨h.bl.trans (hk.below h.bl.size hB), h.i.other hk hF (by decide), hn, h.y.other hk hF (by decide), h.a.other hk hF (by decide), h.b.other hk hF (by decide), h.k.other hk hF (by decide)⟩
theorem Six.wr2 (h : Six w0 f W gi gx gy vi vx vy ni nx ny va vb vk la lb lk) (k : Nat) (he : OwnE w0.heap.size W' vx.e (nx.ents.map (mE k))) (hc : OwnI w0.heap.size W' vx.c (nx.chs.map fun _ => 1000 + (k : Int))) (hy : OwnS w0.heap.size W' vx.k (nx.keys.map fun _ => kT k)) (hh : OwnI w0.heap.size W' vx.h (nx.kids.map fun _ => 2000 + (k : Int))) (hk : Kept (Fb vx) W W') : Six w0 (rl f W.heap.size 2) W' gi gx gy vi vx vy ni (mkN k nx) ny va vb vk la lb lk :=
  h.ch2 hk (fun y _ e => (h.x.fb y e).1) (fun y e => (h.x.fb y e).2) (h.x.write k he hc hy hh hk)
theorem Six.lg2 (h : Six w0 f W gi gx gy vi vx vy ni nx ny va vb vk la lb lk) (k : Nat) {v' : Nv} (he : OwnE w0.heap.size W' v'.e (nx.ents ++ List.replicate 64 (eT k, ⟨#[]⟩))) (hc : OwnI w0.heap.size W' v'.c (nx.chs ++ List.replicate 64 (1000 + (k : Int)))) (hy : OwnS w0.heap.size W' v'.k (nx.keys ++ List.replicate 64 (kT k))) (hh : OwnI w0.heap.size W' v'.h (nx.kids ++ List.replicate 64 (2000 + (k : Int))))
    (q1 : Nr W vx.e v'.e) (q2 : Nr W vx.c v'.c) (q3 : Nr W vx.k v'.k) (q4 : Nr W vx.h v'.h) (ap : ∀ g, v'.c.ownBlock = some g → v'.h.ownBlock ≠ some g) (hk : Kept (Fb vx) W W') : Six w0 (rl f W.heap.size 2) (W'.setRow gx (nx.arr v')) gi gx gy vi v' vy ni (lgN k nx) ny va vb vk la lb lk ∧ W'.heap[gx]? = some (.cells (nx.arr vx) 27 (0, 0)) := by
  obtain ⟨p1, p2, p3⟩ := h.x.longer k he hc hy hh q1 q2 q3 q4 ap hk
  exact ⟨h.ch2 p2 (fun y _ e => e.elim (fun e => (h.x.fb y e).1) (fun e => by rw [e]; exact h.x.lb)) (fun y e => e.elim (fun e => (h.x.fb y e).2) (fun e => by rw [e]; exact h.x.gB)) p1, p3⟩
theorem Six.ch3 (h : Six w0 f W gi gx gy vi vx vy ni nx ny va vb vk la lb lk) (hk : Kept F W W') (hF : ∀ y, y < W.heap.size → F y → f y = 3) (hB : ∀ y, F y → w0.heap.size ≤ y) {v' : Nv} {n' : Nd} (hn : Pc w0.heap.size (rl f W.heap.size 3) 3 W' gy v' n') : Six w0 (rl f W.heap.size 3) W' gi gx gy vi vx v' ni nx n' va vb vk la lb lk :=
  ⟨h.bl.trans (hk.below h.bl.size hB), h.i.other hk hF (by decide), h.x.other hk hF (by decide), hn, h.a.other hk hF (by decide), h.b.other hk hF (by decide), h.k.other hk hF (by decide)⟩
theorem Six.wr3 (h : Six w0 f W gi gx gy vi vx vy ni nx ny va vb vk la lb lk) (k : Nat) (he : OwnE w0.heap.size W' vy.e (ny.ents.map (mE k))) (hc : OwnI w0.heap.size W' vy.c (ny.chs.map fun _ => 1000 + (k : Int))) (hy : OwnS w0.heap.size W' vy.k (ny.keys.map fun _ => kT k)) (hh : OwnI w0.heap.size W' vy.h (ny.kids.map fun _ => 2000 + (k : Int))) (hk : Kept (Fb vy) W W') : Six w0 (rl f W.heap.size 3) W' gi gx gy vi vx vy ni nx (mkN k ny) va vb vk la lb lk :=
  h.ch3 hk (fun y _ e => (h.y.fb y e).1) (fun y e => (h.y.fb y e).2) (h.y.write k he hc hy hh hk)
theorem Six.lg3 (h : Six w0 f W gi gx gy vi vx vy ni nx ny va vb vk la lb lk) (k : Nat) {v' : Nv} (he : OwnE w0.heap.size W' v'.e (ny.ents ++ List.replicate 64 (eT k, ⟨#[]⟩))) (hc : OwnI w0.heap.size W' v'.c (ny.chs ++ List.replicate 64 (1000 + (k : Int)))) (hy : OwnS w0.heap.size W' v'.k (ny.keys ++ List.replicate 64 (kT k))) (hh : OwnI w0.heap.size W' v'.h (ny.kids ++ List.replicate 64 (2000 + (k : Int))))
    (q1 : Nr W vy.e v'.e) (q2 : Nr W vy.c v'.c) (q3 : Nr W vy.k v'.k) (q4 : Nr W vy.h v'.h) (ap : ∀ g, v'.c.ownBlock = some g → v'.h.ownBlock ≠ some g) (hk : Kept (Fb vy) W W') : Six w0 (rl f W.heap.size 3) (W'.setRow gy (ny.arr v')) gi gx gy vi vx v' ni nx (lgN k ny) va vb vk la lb lk ∧ W'.heap[gy]? = some (.cells (ny.arr vy) 27 (0, 0)) := by
  obtain ⟨p1, p2, p3⟩ := h.y.longer k he hc hy hh q1 q2 q3 q4 ap hk
  exact ⟨h.ch3 p2 (fun y _ e => e.elim (fun e => (h.y.fb y e).1) (fun e => by rw [e]; exact h.y.lb)) (fun y e => e.elim (fun e => (h.y.fb y e).2) (fun e => by rw [e]; exact h.y.gB)) p1, p3⟩
theorem Six.by4 (h : Six w0 f W gi gx gy vi vx vy ni nx ny va vb vk la lb lk) {u' : Value} {l' : List UInt8} (hk : Kept (fun y => some y = va.ownBlock) W W') (hn : At va u' W) (ho : Own w0.heap.size W' u' l') : Six w0 (rl f W.heap.size 4) W' gi gx gy vi vx vy ni nx ny u' vb vk l' lb lk :=
  ⟨h.bl.trans (hk.below h.bl.size (fun y e => (h.a.o.lt y e.symm).1)), h.i.other hk (fun y _ e => h.a.lb y e.symm) (by decide), h.x.other hk (fun y _ e => h.a.lb y e.symm) (by decide), h.y.other hk (fun y _ e => h.a.lb y e.symm) (by decide), ⟨ho, h.a.lb.nr (fun k hk => (h.a.o.lt k hk).2) (fun y hy => (hn y hy.symm).imp Eq.symm id)⟩, h.b.other hk (fun y _ e => h.a.lb y e.symm) (by decide), h.k.other hk (fun y _ e => h.a.lb y e.symm) (by decide)⟩
theorem Six.by5 (h : Six w0 f W gi gx gy vi vx vy ni nx ny va vb vk la lb lk) {u' : Value} {l' : List UInt8} (hk : Kept (fun y => some y = vb.ownBlock) W W') (hn : At vb u' W) (ho : Own w0.heap.size W' u' l') : Six w0 (rl f W.heap.size 5) W' gi gx gy vi vx vy ni nx ny va u' vk la l' lk :=
  ⟨h.bl.trans (hk.below h.bl.size (fun y e => (h.b.o.lt y e.symm).1)), h.i.other hk (fun y _ e => h.b.lb y e.symm) (by decide), h.x.other hk (fun y _ e => h.b.lb y e.symm) (by decide), h.y.other hk (fun y _ e => h.b.lb y e.symm) (by decide), h.a.other hk (fun y _ e => h.b.lb y e.symm) (by decide), ⟨ho, h.b.lb.nr (fun k hk => (h.b.o.lt k hk).2) (fun y hy => (hn y hy.symm).imp Eq.symm id)⟩, h.k.other hk (fun y _ e => h.b.lb y e.symm) (by decide)⟩
theorem wf64 (x : Int) (h0 : 0 ≤ x) (h1 : x < 100000) : (Lit.int .i64 x).wf = true := by simp [Lit.wf, IntKind.min, IntKind.max, IntKind.signed, IntKind.bits]; omega
/-- One byte turned in its place. -/
theorem own_set1 {g n cap : Nat} {c : List UInt8} (h : Own B W (.slice (some ⟨g, 0, none⟩) n cap) c) (q : Nat) (z : UInt8) : Own B (W.setCell ⟨g, q, none⟩ (.int .u8 (c8 z))) (.slice (some ⟨g, 0, none⟩) n cap) (c.set q z) := by
  have e : cells8 (c.set q z) = (cells8 c).set q (.int .u8 (c8 z)) := by simp [cells8, List.map_set]
  show World.ownsRow _ _ _ _ _ _ _
  rw [e, List.length_set]
  exact Ps.raw_set h q _
theorem kept_one (W : World) (g j n c : Nat) (u : Value) : Kept (fun y => some y = (Value.slice (some ⟨g, 0, none⟩) n c).ownBlock) W (W.setCell ⟨g, j, none⟩ u) := kept_set (F := fun y => some y = some g) W ⟨g, j, none⟩ u rfl
theorem mk_sz (k : Nat) (hk : k ≤ 3) {n : Nd} (h : Sz n) : Sz (mkN k n) := by
  obtain ⟨h1, h2, h3, h4, _, _⟩ := h
  refine ⟨by simpa [mkN] using h1, by simpa [mkN] using h2, by simpa [mkN] using h3, by simpa [mkN] using h4, fun y hy => ?_, fun y hy => ?_⟩ <;>
  · simp only [mkN, List.mem_map] at hy
    obtain ⟨_, _, rfl⟩ := hy
    exact wf64 _ (by omega) (by omega)
/-- Lengths of a node that fits. -/
theorem fit_len {n : Nd} (h : fitB n = true) : n.ents.length ≤ 1000000 ∧ n.chs.length ≤ 1000000 ∧ n.keys.length ≤ 1000000 ∧ n.kids.length ≤ 1000000 := by
  rcases fit_cases h with ⟨q, _, l⟩ | ⟨q, _, l⟩ | q
  · have := q.c; have := q.y; have := q.h; omega
  · have := q.h; have := q.e; have := q.c; omega
  · have := q.e; have := q.c; have := q.y; have := q.h; omega
theorem mk_len (k : Nat) {n : Nd} (h : n.ents.length ≤ 1000000 ∧ n.chs.length ≤ 1000000 ∧ n.keys.length ≤ 1000000 ∧ n.kids.length ≤ 1000000) : (mkN k n).ents.length ≤ 1000000 ∧ (mkN k n).chs.length ≤ 1000000 ∧ (mkN k n).keys.length ≤ 1000000 ∧ (mkN k n).kids.length ≤ 1000000 := by simpa [mkN] using h
/-- What was marked and made longer bears the mark, and its sizes are small. -/
theorem lg_brs (k : Nat) (hk : k ≤ 3) {n : Nd} (h : n.ents.length ≤ 1000000 ∧ n.chs.length ≤ 1000000 ∧ n.keys.length ≤ 1000000 ∧ n.kids.length ≤ 1000000) :
    Brs k (lgN k (mkN k n)) ∧ Sz (lgN k (mkN k n)) ∧ 64 ≤ (lgN k (mkN k n)).ents.length ∧ 64 ≤ (lgN k (mkN k n)).keys.length := by
  refine ⟨⟨fun x hx => ?_, fun x hx => ?_, fun x hx => ?_, fun x hx => ?_⟩, ⟨?_, ?_, ?_, ?_, fun y hy => ?_, fun y hy => ?_⟩, ?_, ?_⟩
  · simp only [lgN, mkN, List.mem_append, List.mem_map, List.mem_replicate] at hx
    rcases hx with ⟨y, _, rfl⟩ | ⟨_, rfl⟩ <;> rfl
  · simp only [lgN, mkN, List.mem_append, List.mem_map, List.mem_replicate] at hx
    rcases hx with ⟨y, _, rfl⟩ | ⟨_, rfl⟩ <;> rfl
  · simp only [lgN, mkN, List.mem_append, List.mem_map, List.mem_replicate] at hx
    rcases hx with ⟨y, _, rfl⟩ | ⟨_, rfl⟩ <;> rfl
  · simp only [lgN, mkN, List.mem_append, List.mem_map, List.mem_replicate] at hx
    rcases hx with ⟨y, _, rfl⟩ | ⟨_, rfl⟩ <;> rfl
  · simp only [lgN, mkN, List.length_append, List.length_map, List.length_replicate]; omega
  · simp only [lgN, mkN, List.length_append, List.length_map, List.length_replicate]; omega
  · simp only [lgN, mkN, List.length_append, List.length_map, List.length_replicate]; omega
  · simp only [lgN, mkN, List.length_append, List.length_map, List.length_replicate]; omega
  · simp only [lgN, mkN, List.mem_append, List.mem_map, List.mem_replicate] at hy
    rcases hy with ⟨_, _, rfl⟩ | ⟨_, rfl⟩ <;> exact wf64 _ (by omega) (by omega)
  · simp only [lgN, mkN, List.mem_append, List.mem_map, List.mem_replicate] at hy
    rcases hy with ⟨_, _, rfl⟩ | ⟨_, rfl⟩ <;> exact wf64 _ (by omega) (by omega)
  · simp only [lgN, List.length_append, List.length_replicate]; omega
  · simp only [lgN, List.length_append, List.length_replicate]; omega
/-- The six pieces, as they are made. -/
theorem six_make {w0 w1 w2 Y2 w3 w4 w5 w6 Y6 w7 Y7 : World} (b1 : Below w0.heap.size w0 w1)
    (o2 : Ow w1.heap.size w2 vi ni) (b2 : Below w1.heap.size w1 w2) (c2 : Below w2.heap.size w2 Y2) (x2 : Y2.heap[gi]? = some (.cells (ni.arr vi) 27 (0, 0))) (g2 : gi = w2.heap.size)
    (o3 : Own Y2.heap.size w3 va la) (b3 : Below Y2.heap.size Y2 w3) (o4 : Own w3.heap.size w4 vb lb) (b4 : Below w3.heap.size w3 w4) (o5 : Own w4.heap.size w5 vk lk) (b5 : Below w4.heap.size w4 w5)
    (o6 : Ow w5.heap.size w6 vx nx) (b6 : Below w5.heap.size w5 w6) (c6 : Below w6.heap.size w6 Y6) (x6 : Y6.heap[gx]? = some (.cells (nx.arr vx) 27 (0, 0))) (g6 : gx = w6.heap.size)
    (o7 : Ow Y6.heap.size w7 vy ny) (b7 : Below Y6.heap.size Y6 w7) (c7 : Below w7.heap.size w7 Y7) (x7 : Y7.heap[gy]? = some (.cells (ny.arr vy) 27 (0, 0))) (g7 : gy = w7.heap.size) :
    ∃ f, Six w0 f Y7 gi gx gy vi vx vy ni nx ny va vb vk la lb lk := by
  have s1 := b1.size
  have s2 := b2.size
  have s3 := c2.size
  have s4 := b3.size
  have s5 := b4.size
  have s6 := b5.size
  have s7 := b6.size
  have s8 := c6.size
  have s9 := b7.size
  have s10 := c7.size
  have l2 := lt_of_heap x2
  have l6 := lt_of_heap x6
  have l7 := lt_of_heap x7
  have t7 := c7
  have t6 : Below w7.heap.size Y6 Y7 → True := fun _ => trivial
  have u7 : Below Y6.heap.size Y6 Y7 := b7.trans (c7.mono s9)
  have u6 : Below w6.heap.size w6 Y7 := c6.trans (u7.mono s8)
  have u5 : Below w5.heap.size w5 Y7 := b6.trans (u6.mono s7)
  have u4 : Below w4.heap.size w4 Y7 := b5.trans (u5.mono s6)
  have u3 : Below w3.heap.size w3 Y7 := b4.trans (u4.mono s5)
  have u2 : Below Y2.heap.size Y2 Y7 := b3.trans (u3.mono s4)
  have u1 : Below w2.heap.size w2 Y7 := c2.trans (u2.mono s3)
  have u0 : Below w0.heap.size w0 Y7 := b1.trans ((b2.trans (u1.mono s2)).mono s1)
  clear t7 t6
  have lab : ∀ y, (fun y => if y < Y2.heap.size then 1 else if y < w3.heap.size then 4 else if y < w4.heap.size then 5 else if y < w5.heap.size then 6 else if y < Y6.heap.size then 2 else 3) y = (if y < Y2.heap.size then 1 else if y < w3.heap.size then 4 else if y < w4.heap.size then 5 else if y < w5.heap.size then 6 else if y < Y6.heap.size then 2 else 3) := fun _ => rfl
  have q1 : ∀ y, y < Y2.heap.size → (fun y => if y < Y2.heap.size then 1 else if y < w3.heap.size then 4 else if y < w4.heap.size then 5 else if y < w5.heap.size then 6 else if y < Y6.heap.size then 2 else 3) y = 1 := fun y h => by
    rw [lab]; repeat' split
    all_goals first | rfl | (exfalso; omega)
  have q4 : ∀ y, Y2.heap.size ≤ y → y < w3.heap.size → (fun y => if y < Y2.heap.size then 1 else if y < w3.heap.size then 4 else if y < w4.heap.size then 5 else if y < w5.heap.size then 6 else if y < Y6.heap.size then 2 else 3) y = 4 := fun y h h' => by
    rw [lab]; repeat' split
    all_goals first | rfl | (exfalso; omega)
  have q5 : ∀ y, w3.heap.size ≤ y → y < w4.heap.size → (fun y => if y < Y2.heap.size then 1 else if y < w3.heap.size then 4 else if y < w4.heap.size then 5 else if y < w5.heap.size then 6 else if y < Y6.heap.size then 2 else 3) y = 5 := fun y h h' => by
    rw [lab]; repeat' split
    all_goals first | rfl | (exfalso; omega)
  have q6 : ∀ y, w4.heap.size ≤ y → y < w5.heap.size → (fun y => if y < Y2.heap.size then 1 else if y < w3.heap.size then 4 else if y < w4.heap.size then 5 else if y < w5.heap.size then 6 else if y < Y6.heap.size then 2 else 3) y = 6 := fun y h h' => by
    rw [lab]; repeat' split
    all_goals first | rfl | (exfalso; omega)
  have q2 : ∀ y, w5.heap.size ≤ y → y < Y6.heap.size → (fun y => if y < Y2.heap.size then 1 else if y < w3.heap.size then 4 else if y < w4.heap.size then 5 else if y < w5.heap.size then 6 else if y < Y6.heap.size then 2 else 3) y = 2 := fun y h h' => by
    rw [lab]; repeat' split
    all_goals first | rfl | (exfalso; omega)
  have q3 : ∀ y, Y6.heap.size ≤ y → (fun y => if y < Y2.heap.size then 1 else if y < w3.heap.size then 4 else if y < w4.heap.size then 5 else if y < w5.heap.size then 6 else if y < Y6.heap.size then 2 else 3) y = 3 := fun y h => by
    rw [lab]; repeat' split
    all_goals first | rfl | (exfalso; omega)
  clear lab
  refine ⟨_, u0, ⟨by rw [u2.block gi l2]; exact x2, by omega, (o2.mono (by omega)).below u1, q1 gi l2, fun y hy => q1 y ?_, fun y hy => q1 y ?_, fun y hy => q1 y ?_, fun y hy => q1 y ?_⟩,
    ⟨by rw [u7.block gx l6]; exact x6, by omega, (o6.mono (by omega)).below u6, q2 gx (by omega) l6, fun y hy => q2 y ?_ ?_, fun y hy => q2 y ?_ ?_, fun y hy => q2 y ?_ ?_, fun y hy => q2 y ?_ ?_⟩,
    ⟨x7, by omega, (o7.mono (by omega)).below c7, q3 gy (by omega), fun y hy => q3 y ?_, fun y hy => q3 y ?_, fun y hy => q3 y ?_, fun y hy => q3 y ?_⟩,
    ⟨(o3.mono (by omega)).below u3, fun y hy => q4 y ?_ ?_⟩, ⟨(o4.mono (by omega)).below u4, fun y hy => q5 y ?_ ?_⟩, ⟨(o5.mono (by omega)).below u5, fun y hy => q6 y ?_ ?_⟩⟩
  · have := (o2.e.lt y hy).2; omega
  · have := (o2.c.lt y hy).2; omega
  · have := (o2.k.lt y hy).2; omega
  · have := (o2.h.lt y hy).2; omega
  · have := (o6.e.lt y hy).1; omega
  · have := (o6.e.lt y hy).2; omega
  · have := (o6.c.lt y hy).1; omega
  · have := (o6.c.lt y hy).2; omega
  · have := (o6.k.lt y hy).1; omega
  · have := (o6.k.lt y hy).2; omega
  · have := (o6.h.lt y hy).1; omega
  · have := (o6.h.lt y hy).2; omega
  · have := (o7.e.lt y hy).1; omega
  · have := (o7.c.lt y hy).1; omega
  · have := (o7.k.lt y hy).1; omega
  · have := (o7.h.lt y hy).1; omega
  · exact (o3.lt y hy).1
  · exact (o3.lt y hy).2
  · exact (o4.lt y hy).1
  · exact (o4.lt y hy).2
  · exact (o5.lt y hy).1
  · exact (o5.lt y hy).2
/-- A list whose first i bytes are z. -/
def fil (i : Nat) (z : UInt8) (l : List UInt8) : List UInt8 := List.replicate i z ++ l.drop i
theorem fil_len (i : Nat) (z : UInt8) (l : List UInt8) (h : i ≤ l.length) : (fil i z l).length = l.length := by simp [fil]; omega
theorem fil_step (i : Nat) (z : UInt8) (l : List UInt8) (h : i < l.length) : (fil i z l).set i z = fil (i + 1) z l := by
  unfold fil
  rw [List.set_append_right _ _ (by simp), List.length_replicate, Nat.sub_self, List.drop_eq_getElem_cons h, List.set_cons_zero, List.replicate_succ', List.append_assoc]
  rfl
theorem fil_end (z : UInt8) (l : List UInt8) : fil l.length z l = List.replicate l.length z := by simp [fil]
theorem own_cell1 {g n cap : Nat} {c : List UInt8} (h : Own B W (.slice (some ⟨g, 0, none⟩) n cap) c) (q : Nat) (hq : q < c.length) : W.cell? ⟨g, q, none⟩ = some (.int .u8 (c8 (c.getD q 0))) ∧ W.frozen? ⟨g, q, none⟩ = false := by
  have hb := h.bytes
  obtain ⟨_, ⟨hv, _⟩ | ⟨g', cap', cur, hv, _, hg, _⟩⟩ := h
  · simp at hv
  · simp only [Value.slice.injEq, Option.some.injEq, Addr.mk.injEq, and_true] at hv
    obtain ⟨rfl, -, -⟩ := hv
    refine ⟨?_, frozen_of_row _ _ _ _ _ hg⟩
    obtain ⟨a2, c2, e, _, _, _, h3⟩ := hb
    simp only [Value.slice.injEq] at e
    obtain ⟨b2, o2, e2, h4⟩ := h3 q hq
    rw [← e.1] at e2
    simp only [Option.some.injEq, Addr.mk.injEq, and_true] at e2
    rw [← e2.1, ← e2.2, Nat.zero_add] at h4
    exact h4
theorem own_form {v : Value} {l : List UInt8} (h : Own B W v l) (hl : l.length ≠ 0) : ∃ g cap, v = .slice (some ⟨g, 0, none⟩) l.length cap ∧ cap ≤ 9223372036854775807 ∧ l.length ≤ cap := by
  obtain ⟨_, ⟨_, hn⟩ | ⟨g', cap', cur, hv, hB, hg', hnc, hm, _⟩⟩ := h
  · exact absurd hn hl
  · exact ⟨g', cap', hv, by unfold maxLen at hm; omega, hnc⟩
theorem two_at (m k : Nat) (x y : UInt8) (i : Nat) (_h : i < m + k) : (List.replicate m x ++ List.replicate k y).getD i 0 = if i < m then x else y := by
  by_cases h : i < m
  · rw [if_pos h, List.getD_eq_getElem?_getD, List.getElem?_append_left (by simpa using h)]; simp [h]
  · rw [if_neg h, List.getD_eq_getElem?_getD, List.getElem?_append_right (by simpa using h)]; simp [show i - m < k by omega]
theorem app_byteX {ops : Array Oper} {rest : List Oper} {o : Oper} {a : Act} {Q : Exit → Act → World → Prop} (hgd : o.guard = none) (s x : Operand)
    (ho : o.op = .call { callee := .builtin .append, args := #[s, x], argTypes := #[33, 33] })
    {w0 : World} {v : Value} {l : List UInt8} (hs : a.eval s = v) (hown : Own B w0 v l) (hB : B ≤ w0.heap.size) (m : Int) (c : UInt8) (hn : m = c8 c)
    (hx : a.eval x = .slice (some ⟨w0.heap.size, 0, none⟩) 1 1) (hl : l.length < 140737488355328)
    (h : ∀ a' n' c' w', Hid (Own B w' (.slice a' n' c') (l ++ [c]) ∧ w0.grownBy w' v.ownBlock ∧ At v (.slice a' n' c') w0) → wpList Try.prog ops Q rest (a.put o.dst (.slice a' n' c')) w') :
    wpList Try.prog ops Q (o :: rest) a (w0.alloc (.cells #[.int .u8 m] 5)) := by
  refine app_byte hgd s x ho hs hown hB m c hn hx hl (fun v' w' h1 h2 h3 => ?_)
  obtain ⟨a', c', e, _, _⟩ := h1.bytes.len
  subst e
  exact h _ _ _ _ (Lib.hid ⟨h1, h2, h3⟩)
theorem six_write1 (h : ∃ f, Six w0 f W gi gx gy vi vx vy ni nx ny va vb vk la lb lk) (hz : Sz ni) : Calls Try.prog 14 #[.agg (ni.arr vi), .int .i64 1] W fun e w' => e = .returned (.tuple #[]) ∧ Hid (∃ f, Six w0 f w' gi gx gy vi vx vy (mkN 1 ni) nx ny va vb vk la lb lk) := by
  obtain ⟨f, h⟩ := h
  have q : Calls Try.prog 14 #[.agg (ni.arr vi), .int .i64 1] W _ := write_any 1 (by decide) ni vi w0.heap.size W h.i.o.e h.i.o.c h.i.o.k h.i.o.h h.i.o.ap hz
  refine q.mono ?_
  rintro e w' ⟨rfl, o1, o2, o3, o4, hk⟩
  exact ⟨rfl, Lib.hid ⟨_, h.wr1 1 o1 o2 o3 o4 hk⟩⟩
theorem six_longer1 (h : ∃ f, Six w0 f W gi gx gy vi vx vy ni nx ny va vb vk la lb lk) (hz : ni.ents.length ≤ 1000000 ∧ ni.chs.length ≤ 1000000 ∧ ni.keys.length ≤ 1000000 ∧ ni.kids.length ≤ 1000000) : Calls Try.prog 15 #[.agg (ni.arr vi), .int .i64 1] W fun e w' => ∃ v' : Nv, e = .returned (.agg (ni.arr v')) ∧ Hid ((∃ f, Six w0 f (w'.setRow gi (ni.arr v')) gi gx gy v' vx vy (lgN 1 ni) nx ny va vb vk la lb lk) ∧ w'.heap[gi]? = some (.cells (ni.arr vi) 27 (0, 0)) ∧ v'.e.oneCell' = true ∧ v'.c.oneCell' = true ∧ v'.k.oneCell' = true ∧ v'.h.oneCell' = true) := by
  obtain ⟨f, h⟩ := h
  have q : Calls Try.prog 15 #[.agg (ni.arr vi), .int .i64 1] W _ := longer_any 1 (by decide) ni vi w0.heap.size W h.bl.size h.i.o.e h.i.o.c h.i.o.k h.i.o.h h.i.o.ap hz
  refine q.mono ?_
  rintro e w' ⟨v', rfl, o1, o2, o3, o4, r1, r2, r3, r4, ap, hk⟩
  obtain ⟨t1, t2⟩ := h.lg1 1 o1 o2 o3 o4 r1 r2 r3 r4 ap hk
  obtain ⟨u1, u2, u3, u4⟩ := v'
  exact ⟨_, rfl, Lib.hid ⟨⟨_, t1⟩, t2, ls_one (n := lgN 1 ni) ⟨o1.ents, o2.ints, o3.strs, o4.ints⟩⟩⟩
theorem six_write2 (h : ∃ f, Six w0 f W gi gx gy vi vx vy ni nx ny va vb vk la lb lk) (hz : Sz nx) : Calls Try.prog 14 #[.agg (nx.arr vx), .int .i64 2] W fun e w' => e = .returned (.tuple #[]) ∧ Hid (∃ f, Six w0 f w' gi gx gy vi vx vy ni (mkN 2 nx) ny va vb vk la lb lk) := by
  obtain ⟨f, h⟩ := h
  have q : Calls Try.prog 14 #[.agg (nx.arr vx), .int .i64 2] W _ := write_any 2 (by decide) nx vx w0.heap.size W h.x.o.e h.x.o.c h.x.o.k h.x.o.h h.x.o.ap hz
  refine q.mono ?_
  rintro e w' ⟨rfl, o1, o2, o3, o4, hk⟩
  exact ⟨rfl, Lib.hid ⟨_, h.wr2 2 o1 o2 o3 o4 hk⟩⟩
theorem six_longer2 (h : ∃ f, Six w0 f W gi gx gy vi vx vy ni nx ny va vb vk la lb lk) (hz : nx.ents.length ≤ 1000000 ∧ nx.chs.length ≤ 1000000 ∧ nx.keys.length ≤ 1000000 ∧ nx.kids.length ≤ 1000000) : Calls Try.prog 15 #[.agg (nx.arr vx), .int .i64 2] W fun e w' => ∃ v' : Nv, e = .returned (.agg (nx.arr v')) ∧ Hid ((∃ f, Six w0 f (w'.setRow gx (nx.arr v')) gi gx gy vi v' vy ni (lgN 2 nx) ny va vb vk la lb lk) ∧ w'.heap[gx]? = some (.cells (nx.arr vx) 27 (0, 0)) ∧ v'.e.oneCell' = true ∧ v'.c.oneCell' = true ∧ v'.k.oneCell' = true ∧ v'.h.oneCell' = true) := by
  obtain ⟨f, h⟩ := h
  have q : Calls Try.prog 15 #[.agg (nx.arr vx), .int .i64 2] W _ := longer_any 2 (by decide) nx vx w0.heap.size W h.bl.size h.x.o.e h.x.o.c h.x.o.k h.x.o.h h.x.o.ap hz
  refine q.mono ?_
  rintro e w' ⟨v', rfl, o1, o2, o3, o4, r1, r2, r3, r4, ap, hk⟩
  obtain ⟨t1, t2⟩ := h.lg2 2 o1 o2 o3 o4 r1 r2 r3 r4 ap hk
  obtain ⟨u1, u2, u3, u4⟩ := v'
  exact ⟨_, rfl, Lib.hid ⟨⟨_, t1⟩, t2, ls_one (n := lgN 2 nx) ⟨o1.ents, o2.ints, o3.strs, o4.ints⟩⟩⟩
theorem six_write3 (h : ∃ f, Six w0 f W gi gx gy vi vx vy ni nx ny va vb vk la lb lk) (hz : Sz ny) : Calls Try.prog 14 #[.agg (ny.arr vy), .int .i64 3] W fun e w' => e = .returned (.tuple #[]) ∧ Hid (∃ f, Six w0 f w' gi gx gy vi vx vy ni nx (mkN 3 ny) va vb vk la lb lk) := by
  obtain ⟨f, h⟩ := h
  have q : Calls Try.prog 14 #[.agg (ny.arr vy), .int .i64 3] W _ := write_any 3 (by decide) ny vy w0.heap.size W h.y.o.e h.y.o.c h.y.o.k h.y.o.h h.y.o.ap hz
  refine q.mono ?_
  rintro e w' ⟨rfl, o1, o2, o3, o4, hk⟩
  exact ⟨rfl, Lib.hid ⟨_, h.wr3 3 o1 o2 o3 o4 hk⟩⟩
theorem six_longer3 (h : ∃ f, Six w0 f W gi gx gy vi vx vy ni nx ny va vb vk la lb lk) (hz : ny.ents.length ≤ 1000000 ∧ ny.chs.length ≤ 1000000 ∧ ny.keys.length ≤ 1000000 ∧ ny.kids.length ≤ 1000000) : Calls Try.prog 15 #[.agg (ny.arr vy), .int .i64 3] W fun e w' => ∃ v' : Nv, e = .returned (.agg (ny.arr v')) ∧ Hid ((∃ f, Six w0 f (w'.setRow gy (ny.arr v')) gi gx gy vi vx v' ni nx (lgN 3 ny) va vb vk la lb lk) ∧ w'.heap[gy]? = some (.cells (ny.arr vy) 27 (0, 0)) ∧ v'.e.oneCell' = true ∧ v'.c.oneCell' = true ∧ v'.k.oneCell' = true ∧ v'.h.oneCell' = true) := by
  obtain ⟨f, h⟩ := h
  have q : Calls Try.prog 15 #[.agg (ny.arr vy), .int .i64 3] W _ := longer_any 3 (by decide) ny vy w0.heap.size W h.bl.size h.y.o.e h.y.o.c h.y.o.k h.y.o.h h.y.o.ap hz
  refine q.mono ?_
  rintro e w' ⟨v', rfl, o1, o2, o3, o4, r1, r2, r3, r4, ap, hk⟩
  obtain ⟨t1, t2⟩ := h.lg3 3 o1 o2 o3 o4 r1 r2 r3 r4 ap hk
  obtain ⟨u1, u2, u3, u4⟩ := v'
  exact ⟨_, rfl, Lib.hid ⟨⟨_, t1⟩, t2, ls_one (n := lgN 3 ny) ⟨o1.ents, o2.ints, o3.strs, o4.ints⟩⟩⟩
end Pm
end Go.Proofs.Ytmoghdpjemidgaa
