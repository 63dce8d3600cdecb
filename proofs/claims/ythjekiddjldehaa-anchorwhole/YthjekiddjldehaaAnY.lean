/-
  The states of AnchorWhole.
-/
import Derived.Test.YthjekiddjldehaaAnX
import Derived.Test.YthjekiddjldehaaAnO
import Derived.Test.YthjekiddjldehaaOfA
namespace Go.Proofs.Ythjekiddjldehaa
open Go.RowKit Go.Maps
/-- A try. -/
structure TrD where
  s : Sup
  arm : Int
  cr : Bool
  fv : Value
  fs : List (Int × Int)
def TrD.cells (o : TrD) : List Value := [.int .i64 o.s.gen, .int .i64 o.s.ep, .int .i64 o.s.blk, .int .i64 o.s.log, .int .i64 o.s.st, .int .i64 o.s.pl, .int .i64 o.s.rt, .int .i64 o.s.cnt, .int .i64 o.s.ver, .int .i64 o.arm, .bool o.cr, o.fv]
def TrD.At (o : TrD) (w : World) : Prop := Fts w o.fv o.fs ∧ o.fs.length ≤ 8796093022199
/-- The slice v holds the tries l. -/
def Trs (w : World) (v : Value) (l : List TrD) : Prop :=
  (∀ o ∈ l, o.At w) ∧ ∃ a cap, v = .slice a l.length cap ∧ l.length ≤ cap ∧ cap ≤ maxLen ∧ (l ≠ [] → ∃ b off, a = some ⟨b, off, none⟩ ∧ ∀ j x, l[j]? = some x → ∀ i u, x.cells[i]? = some u → w.cell? ⟨b, off + j * 12 + i, none⟩ = some u)
/-- In AnchorWhole: a device, what counted, the try, the next superblock. -/
structure Wy (w W : World) (d mb mp : Nat) (cv : Value) (ds : DS) (g6 g8 g9 : Nat) (c n : Sup) (tr : Array Value) : Prop where
  dv : Dv w.heap.size W d mb mp cv ds
  b6 : W.heap[g6]? = some (.cells c.arr 25 (0, 0))
  b8 : W.heap[g8]? = some (.cells tr 51 (0, 0))
  b9 : W.heap[g9]? = some (.cells n.arr 25 (0, 0))
  bl : Below w.heap.size w W
  ne : g6 ≠ g9 ∧ w.heap.size ≤ g6
variable {w W W' : World} {d mb mp : Nat} {cv : Value} {ds : DS} {g6 g8 g9 : Nat} {c n : Sup} {tr : Array Value}
theorem Wy.below (h : Wy w W d mb mp cv ds g6 g8 g9 c n tr) (hb : Below W.heap.size W W') : Wy w W' d mb mp cv ds g6 g8 g9 c n tr :=
  ⟨h.dv.below hb, by rw [hb.block _ (lt_of_heap h.b6)]; exact h.b6, by rw [hb.block _ (lt_of_heap h.b8)]; exact h.b8, by rw [hb.block _ (lt_of_heap h.b9)]; exact h.b9, h.bl.trans (hb.mono h.bl.size), h.ne⟩
theorem try_foot {g : Nat} {B : Nat} (h : Dv B W d mb mp cv ds) (hg : W.heap[g]? = some (.cells tr 51 (0, 0))) : ¬ Foot d mb mp cv g :=
  foot_ty h hg (by decide) (by decide) (by decide)
theorem Wy.dev {cv' : Value} {ds' : DS} {G : Nat → Prop} (h : Wy w W d mb mp cv ds g6 g8 g9 c n tr) (hd : Dv w.heap.size W' d mb mp cv' ds') (hk : Kept G W W') (hG : ∀ k, G k → Foot d mb mp cv k) : Wy w W' d mb mp cv' ds' g6 g8 g9 c n tr :=
  ⟨hd, by rw [hk.block _ (lt_of_heap h.b6) (fun e => sup_foot h.dv h.b6 (hG _ e))]; exact h.b6, by rw [hk.block _ (lt_of_heap h.b8) (fun e => try_foot h.dv h.b8 (hG _ e))]; exact h.b8, by rw [hk.block _ (lt_of_heap h.b9) (fun e => sup_foot h.dv h.b9 (hG _ e))]; exact h.b9, h.bl.trans (hk.below h.bl.size (fun k e => (h.dv.foot_lt k (hG k e)).1)), h.ne⟩
/-- Another device's block was changed. -/
theorem Wy.other {B dc mbc mpc : Nat} {cvc : Value} {dsc : DS} (h : Wy w W d mb mp cv ds g6 g8 g9 c n tr) (hc : Dv B W dc mbc mpc cvc dsc) (hne : d < dc) (hB : w.heap.size ≤ dc) (hk : Kept (fun k => k = dc) W W') : Wy w W' d mb mp cv ds g6 g8 g9 c n tr := by
  have t : ∀ {g : Nat} {cs : Array Value} {t : TypeId}, W.heap[g]? = some (.cells cs t (0, 0)) → t ≠ 77 → g ≠ dc := by
    rintro g cs t hg ht rfl
    rw [hc.self] at hg
    simp at hg
    exact ht hg.2.symm
  refine ⟨h.dv.kept hk (fun k hf e => ?_), by rw [hk.block _ (lt_of_heap h.b6) (t h.b6 (by decide))]; exact h.b6, by rw [hk.block _ (lt_of_heap h.b8) (t h.b8 (by decide))]; exact h.b8, by rw [hk.block _ (lt_of_heap h.b9) (t h.b9 (by decide))]; exact h.b9, h.bl.trans (hk.below h.bl.size (fun x hx => by omega)), h.ne⟩
  subst e
  rcases hf with q | q | q | q
  · omega
  · exact t h.dv.med (by decide) q.symm
  · obtain ⟨M, hM, _⟩ := h.dv.latest
    obtain ⟨es, c0, hm⟩ := map_block hM
    rw [← q, hc.self] at hm
    simp at hm
  · obtain ⟨cur2, hc2⟩ := row_block h.dv.cache q
    exact t hc2 (by decide) rfl
theorem Wy.six (h : Wy w W d mb mp cv ds g6 g8 g9 c n tr) (s : Sup) : Wy w (W.setRow g6 s.arr) d mb mp cv ds g6 g8 g9 s n tr := by
  have hk := kept_setRow W g6 s.arr
  have e8 : g8 ≠ g6 := by rintro rfl; have := h.b8; rw [h.b6] at this; simp at this
  exact ⟨h.dv.kept hk (fun k hf e => sup_foot h.dv h.b6 (e ▸ hf)), setRow_heap _ _ _ _ _ _ h.b6, by rw [setRow_other _ _ _ _ e8]; exact h.b8, by rw [setRow_other _ _ _ _ h.ne.1.symm]; exact h.b9, h.bl.trans (hk.below h.bl.size (fun x hx => by rw [hx]; exact h.ne.2)), h.ne⟩
/-- Between two tries. -/
structure Ws (w W : World) (d mb mp : Nat) (cv : Value) (ds : DS) (g6 : Nat) (c : Sup) (k : Nat) : Prop where
  dv : Dv w.heap.size W d mb mp cv ds
  b6 : W.heap[g6]? = some (.cells c.arr 25 (0, 0))
  bl : Below w.heap.size w W
  lo : w.heap.size ≤ g6
  dn : ds.down = false
  ca : ds.cache = []
  n : ds.n = 64
  iv : Iv ds.med c
  gk : c.gen ≤ (k : Int)
  ws : ds.ws ≤ k
theorem medium_x {B : Nat} (h : Dv B W d mb mp cv ds) : Calls Try.prog 25 #[.pointer (some ⟨d, 0, none⟩)] W fun e w' => ∃ a m c, e = .returned (.slice a m c) ∧ Bytes w' (.slice a m c) ds.med ∧ Below W.heap.size W w' := by
  refine (medium_any h).mono ?_
  rintro e w' ⟨rfl, h1, h2⟩
  exact ⟨_, _, _, rfl, h1.bytes, h2⟩
theorem crash_x {B : Nat} {v : Value} {fs : List (Int × Int)} (h : Wy w W d mb mp cv ds g6 g8 g9 c n tr) (hws : ds.cache.length ≤ 1) (hv : W.ownsRow B 91 2 v fs.length (cellsF fs)) : Calls Try.prog 21 #[.pointer (some ⟨d, 0, none⟩), v] W fun e w' => (∃ i, e = .returned (.int .i64 i)) ∧ Wy w w' d mb mp (.slice none 0 0) (crD ds fs) g6 g8 g9 c n tr := by
  refine (crash_any2 h.dv (by omega) v fs (fun w' hk => fts_own (row_kept hv hk (fun g hg e => ?_)))).mono ?_
  · obtain ⟨cur, hc⟩ := row_block hv hg
    rw [e, h.dv.med] at hc
    simp at hc
  · rintro e w' ⟨rfl, h1, h2⟩
    refine ⟨⟨_, rfl⟩, h.dev h1 h2 (fun k hk => ?_)⟩
    rcases hk with q | q | q
    · exact Or.inl q
    · exact Or.inr (Or.inl q)
    · exact Or.inr (Or.inr (Or.inl q))
theorem write_x (h : Wy w W d mb mp cv ds g6 g8 g9 c n tr) (s : Sup) (hws : ds.ws < 4611686018427387904) (hcl : ds.cache = []) : Calls Try.prog 20 #[.pointer (some ⟨d, 0, none⟩), .agg s.arr] W fun e w' => ∃ cv', e = .returned (.int .i64 (wrA ds s).2) ∧ Wy w w' d mb mp cv' (wrA ds s).1 g6 g8 g9 c n tr := by
  refine (write_a h.dv s hws (by rw [hcl]; decide)).mono ?_
  rintro e w' ⟨cv', rfl, h1, h2, h3⟩
  exact ⟨cv', rfl, h.dev h1 h2 (fun _ q => q)⟩
theorem arm_x (h : Wy w W d mb mp cv ds g6 g8 g9 c n tr) (a : Int) (ha : 0 ≤ a) (hd : ds.down = false) : Calls Try.prog 19 #[.pointer (some ⟨d, 0, none⟩), .int .i64 a] W fun e w' => e = .returned (.int .i64 0) ∧ Wy w w' d mb mp cv { ds with armed := true, left := a } g6 g8 g9 c n tr := by
  have e : armD ds a = ({ ds with armed := true, left := a }, 0) := by unfold armD; rw [if_neg (by omega), if_neg (by rw [hd]; simp)]
  have := arm_any h.dv a
  rw [e] at this
  refine this.mono ?_
  rintro e w' ⟨rfl, h1, h2⟩
  exact ⟨rfl, h.dev h1 h2 (fun k q => Or.inl q)⟩
theorem read_x (h : Wy w W d mb mp cv ds g6 g8 g9 c n tr) (hd : ds.down = false) (r : Sup × Int × Int) (hr : readU ds = r) : Calls Try.prog 13 #[.pointer (some ⟨d, 0, none⟩)] W fun e w' => e = .returned (.tuple #[.agg r.1.arr, .int .i64 r.2.1, .int .i64 r.2.2]) ∧ Wy w w' d mb mp cv (rdk ds 2) g6 g8 g9 c n tr ∧ Kept (fun k => k = d) W w' := by
  have := read_up h.dv hd
  rw [hr] at this
  refine this.mono ?_
  rintro e w' ⟨rfl, h1, h2⟩
  exact ⟨rfl, h.dev h1 h2 (fun k q => Or.inl q), h2⟩
theorem iv_read {D : DS} {c : Sup} (h : Iv D.med c) (hc : D.cache = []) (hn : D.n = 64) : readU D = if c.gen = 0 then (zeroS, 0, 5) else (c, c.gen % 2, 0) := by
  unfold readU
  rw [h.bst hc hn]
end Go.Proofs.Ythjekiddjldehaa
